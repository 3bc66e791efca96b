/- The contracts of the document's device: Read, Load. -/
import Derived.Test.YtikpmchjlpobdaaDRLeaf
import Derived.Deep.RegionLaw
namespace Go.Proofs.Ytikpmchjlpobdaa
open Go.RowKit Go.Shelf
set_option linter.unusedVariables false

/-- append([]byte{}, y...). -/
theorem app_new {w : World} {a : Option Addr} {n c : Nat} {zs : List Int} (h : Has w a n zs) (hn : n ≤ 10000) :
    ∃ a' c' w', (∀ ty, (Builtin.append_ #[31, 31] ty #[.slice (some ⟨w.heap.size, 0, none⟩) 0 0, .slice a n c]).run Try.prog (w.alloc (.cells #[] 5)) = .ok (.slice a' n c') w') ∧ Own w.heap.size w' a' n c' zs ∧ Below w.heap.size w w' := by
  have hb : Below w.heap.size w (w.alloc (.cells #[] 5)) := (Below.refl _ _).alloc (Nat.le_refl _) _
  have ho : Own w.heap.size (w.alloc (.cells #[] 5)) (some ⟨w.heap.size, 0, none⟩) 0 0 [] := ⟨rfl, Nat.le_refl _, by unfold maxLen; omega, .inr ⟨w.heap.size, #[], rfl, Nat.le_refl _, World.alloc_heap_new _ _, rfl, rfl⟩⟩
  obtain ⟨a', c', w', hr, hO, _, hB⟩ := run_append_bytes ho hb.size c (h.later hb) (by omega)
  rw [Nat.zero_add] at hr hO
  rw [List.nil_append] at hO
  exact ⟨a', c', w', hr, hO, hb.trans hB⟩

theorem app_newd {w : World} {a : Option Addr} {n c : Nat} {zs : List Int} (h : Has w a n zs) (hn : n ≤ 10000) :
    ∃ a' c' w', (∀ ty, (Builtin.append_ #[31, 31] ty #[.slice (some ⟨w.heap.size, 0, none⟩) 0 0, .slice a n c]).run Try.prog (w.alloc (.cells #[] 5)).drew = .ok (.slice a' n c') w') ∧ Own w.heap.size w' a' n c' zs ∧ Below w.heap.size w w' := by
  obtain ⟨a', c', w', h1, h2, h3⟩ := app_new (w := w.drew) (c := c) (h.drewN 1) hn
  exact ⟨a', c', w', h1, h2, undrew h3⟩

set_option maxHeartbeats 1000000 in
theorem rread_ok (g i : Nat) (S : Nat → Prop) (D : Dev) (w : World) (hD : Rv w S g D) (hd : D.dead = false) (hi : i < D.n) :
    Calls Try.prog 13 #[.pointer (some ⟨g, 0, none⟩), .int .i64 i] w fun e w' => ∃ a' c', e = .returned (.tuple #[.slice a' D.blk c', .int .i64 0]) ∧ Has w' a' D.blk (D.rd i) ∧ Below w.heap.size w w' := by
  obtain ⟨m, hD⟩ := hD
  obtain ⟨c0, c1, c2, c3, c4⟩ := hD.cells
  rw [hd] at c3
  obtain ⟨k, c, e1, e2, e3, e4, l1, l2, l3⟩ := hD.list hi
  obtain ⟨r, l4, l5⟩ := l3 (D.Y i).length (by omega)
  rw [rd_last] at l5
  have hb2 := hD.ok.b2
  have hn2 := hD.ok.n2
  have hy := hD.ok.y i hi
  obtain ⟨a', c', w', R', hO, hB⟩ := app_new (c := r.2) (l5.row hb2).has (by omega)
  have R := hide R'
  have H1 := hide hO.has
  have H2 := hide hB
  have l6 : ∀ o, (w.alloc o).cell? ⟨k, (D.Y i).length, none⟩ = some (rv D.blk r) := fun o => by
    have hb := (Below.refl w.heap.size w).alloc (Nat.le_refl _) o
    rw [hb.cell (p := ⟨k, (D.Y i).length, none⟩) (cell_block_lt l4)]
    exact l4
  unfold maxLen at e3
  have hin : (i : Int) < (D.n : Int) := by omega
  generalize hq : D.rd i = zs at *
  clear hq e1 l5 R' hO hB hD hd l2 l3 e4
  generalize (D.Y i).length = ly at *
  obtain ⟨r1, r2⟩ := r
  generalize m.h = hh at *
  generalize m.hc = hc at *
  generalize D.n = nn at *
  generalize D.blk = bb at *
  go_enter Try.func13, Try.ntmps13
  go_wp2_with (at_builtin; refine wpList_append_run 31 rfl _ _ rfl _ _ _ rfl rfl (unhide R) ?_; clear R)
  go_ret2
  exact ⟨a', c', rfl, unhide H1, unhide H2⟩

theorem own_rowAt {w w' : World} {S : Nat → Prop} {a' : Option Addr} {n c' : Nat} {zs : List Int} (hO : Own w.heap.size w' a' n c' zs) (hn : 1 ≤ n) (hz : ∀ z ∈ zs, 0 ≤ z ∧ z ≤ 255) : ∃ k, a' = some ⟨k, 0, none⟩ ∧ w.heap.size ≤ k ∧ k < w'.heap.size ∧ RowAt w' (exS S w w') n (k, c') zs := by
  obtain ⟨h1, h2, h3, h4⟩ := hO
  rcases h4 with ⟨_, h4, _⟩ | ⟨k, cur, rfl, hk, hh, hc, ht⟩
  · omega
  · have hlt := (Array.getElem?_eq_some_iff.1 hh).1
    exact ⟨k, rfl, hk, hlt, ⟨⟨h1, cur, hh, ht⟩, .inr ⟨hk, hlt⟩, h2, h3, hz⟩⟩

/-- A new list of one row. -/
theorem WR.single {w1 : World} {S : Nat → Prop} {blk : Nat} {r : Nat × Nat} {x : List Int} (hr : RowAt w1 S blk r x) {S' : Nat → Prop} (hS : ∀ k, S k → S' k) (hlt : ∀ k, S k → k < w1.heap.size) (hn : S' w1.heap.size) : WR (w1.alloc (.cells #[rv blk r] 31)) S' blk (.slice (some ⟨w1.heap.size, 0, none⟩) 1 1) [x] := by
  refine ⟨[r], ⟨rfl, .inr ⟨w1.heap.size, 1, #[rv blk r], rfl, Nat.zero_le _, World.alloc_heap_new _ _, Nat.le_refl _, by unfold maxLen; omega, rfl, rfl⟩⟩, fun j hj => ?_, fun k e => ?_⟩
  · obtain rfl : j = 0 := by simp at hj; exact hj
    exact hr.kept (fun k c hs _ => Below.heap_alloc w1 _ k (hlt k hs)) hS
  · simp [Value.ownBlock] at e
    subst e
    exact hn

/-- A list of one row, stored. -/
theorem RvM.fresh {w w1 : World} {S : Nat → Prop} {g : Nat} {D : Dev} {m : RMem} (h : RvM w S g D m) {i : Nat} (hi : i < D.n) (hb : Below w.heap.size w w1) {r : Nat × Nat} {x : List Int} (hr : RowAt w1 (exS S w w1) D.blk r x) :
    ∃ S', Rv ((w1.alloc (.cells #[rv D.blk r] 31)).setCell ⟨m.h, i, none⟩ (.slice (some ⟨w1.heap.size, 0, none⟩) 1 1)) S' g (D.put i x []) ∧ Nx S w S' ((w1.alloc (.cells #[rv D.blk r] 31)).setCell ⟨m.h, i, none⟩ (.slice (some ⟨w1.heap.size, 0, none⟩) 1 1)) := by
  have hb1 := (Below.refl w1.heap.size w1).alloc (Nat.le_refl _) (.cells #[rv D.blk r] 31)
  have hb2 : Below w.heap.size w (w1.alloc (.cells #[rv D.blk r] 31)) := hb.trans (hb1.mono hb.size)
  have h2 := h.grow hb2
  have hsz : (w1.alloc (.cells #[rv D.blk r] 31)).heap.size = w1.heap.size + 1 := by simp
  have hW : WR (w1.alloc (.cells #[rv D.blk r] 31)) (exS S w (w1.alloc (.cells #[rv D.blk r] 31))) D.blk (.slice (some ⟨w1.heap.size, 0, none⟩) 1 1) [x] := WR.single hr (fun k hk => by
      rcases hk with hk | hk
      · exact .inl hk
      · exact .inr ⟨hk.1, by omega⟩) (fun k hk => by
      rcases hk with hk | hk
      · exact Nat.lt_of_lt_of_le (h.lt k hk) hb.size
      · exact hk.2) (.inr ⟨hb.size, by omega⟩)
  have h3 := h2.setL hi hW (by simp) (fun j k hj hji e e2 => by
    simp [Value.ownBlock] at e2
    subst e2
    have := h.lt _ ((h.row j hj).own e).1
    have := hb.size
    omega)
  exact ⟨_, ⟨_, h3⟩, (Nx.grow hb2).trans (Nx.set (p := ⟨m.h, i, none⟩) h2.sh _)⟩

/-- What Load and Write refuse. -/
theorem rload_bad (g : Nat) (b : Int) (a : Option Addr) (len cap : Nat) (S : Nat → Prop) (D : Dev) (w : World) (hD : Rv w S g D) (hr : refE D b len ≠ 0) :
    Calls Try.prog 24 #[.pointer (some ⟨g, 0, none⟩), .int .i64 b, .slice a len cap] w fun e w' => e = .returned (.int .i64 (refE D b len)) ∧ w = w' := by
  obtain ⟨m, hD⟩ := hD
  obtain ⟨c0, c1, c2, c3, c4⟩ := hD.cells
  generalize hq : refE D b len = q at *
  have hQ := hide hq
  clear hq
  unfold refE at hQ
  by_cases hb : 0 ≤ b ∧ b < D.n
  · have hl : ¬ len = D.blk := fun e => hr (by rw [← unhide hQ, if_neg (fun h => h hb), if_neg (fun h => h e)])
    have hq1 : q = 1 := by rw [← unhide hQ, if_neg (fun h => h hb), if_pos hl]
    have hz : ((len : Int) != (D.blk : Int)) = true := by simp; omega
    subst hq1
    obtain ⟨hb1, hb2⟩ := hb
    have n1 : ¬ b < 0 := by omega
    have n2 : ¬ (D.n : Int) ≤ b := by omega
    generalize D.blk = bb at *
    generalize D.n = nn at *
    clear hD hr hQ hl
    go_enter Try.func24, Try.ntmps24
    go_wp2
    go_ret
    exact ⟨rfl, rfl⟩
  · have hq1 : q = 2 := by rw [← unhide hQ, if_pos hb]
    subst hq1
    generalize D.blk = bb at *
    generalize D.n = nn at *
    clear hD hr hQ
    by_cases n1 : b < 0
    · clear hb
      go_enter Try.func24, Try.ntmps24
      go_wp2
      go_ret
      exact ⟨rfl, rfl⟩
    · have n2 : (nn : Int) ≤ b := by omega
      clear hb
      go_enter Try.func24, Try.ntmps24
      go_wp2
      go_ret
      exact ⟨rfl, rfl⟩

set_option maxHeartbeats 1000000 in
theorem rload_ok (g i : Nat) (a : Option Addr) (cap : Nat) (zs : List Int) (S : Nat → Prop) (D : Dev) (w : World) (hD : Rv w S g D) (hi : i < D.n) (hr : Row w.heap.size w a D.blk cap zs) :
    Calls Try.prog 24 #[.pointer (some ⟨g, 0, none⟩), .int .i64 i, .slice a D.blk cap] w fun e w' => e = .returned (.int .i64 0) ∧ ∃ S', Rv w' S' g (D.load i zs) ∧ Nx S w S' w' := by
  obtain ⟨m, hD⟩ := hD
  obtain ⟨c0, c1, c2, c3, c4⟩ := hD.cells
  have hn := hD.ok.n2
  have hb1 := hD.ok.b1
  have hb2 := hD.ok.b2
  obtain ⟨a', c', w1, R', hO, hB⟩ := app_newd (c := cap) hr.has (by omega)
  obtain ⟨k, rfl, hk1, hk2, hrow⟩ := own_rowAt (S := S) hO hb1 hr.2.2.2.1
  have F : Hid (∃ S', Rv ((w1.alloc (.cells #[.slice (some ⟨k, 0, none⟩) D.blk c'] 31)).setCell ⟨m.h, i, none⟩ (.slice (some ⟨w1.heap.size, 0, none⟩) 1 1)) S' g (D.load i zs) ∧ Nx S w S' ((w1.alloc (.cells #[.slice (some ⟨k, 0, none⟩) D.blk c'] 31)).setCell ⟨m.h, i, none⟩ (.slice (some ⟨w1.heap.size, 0, none⟩) 1 1))) := hD.fresh hi hB hrow
  have R := hide R'
  have g1 := hD.grow hB
  have x0 : w.drew.cell? ⟨g, 1, none⟩ = some (.slice (some ⟨m.h, 0, none⟩) D.n m.hc) := c1
  have x1 : ∀ o, (w.alloc o).cell? ⟨g, 1, none⟩ = some (.slice (some ⟨m.h, 0, none⟩) D.n m.hc) := fun o => (hD.dev.alloc o).cell (i := 1) (by omega)
  have x2 : w1.cell? ⟨g, 1, none⟩ = some (.slice (some ⟨m.h, 0, none⟩) D.n m.hc) := g1.cells.2.1
  have x3 : ∀ o, (w1.alloc o).cell? ⟨g, 1, none⟩ = some (.slice (some ⟨m.h, 0, none⟩) D.n m.hc) := fun o => (g1.dev.alloc o).cell (i := 1) (by omega)
  have x4 : ∀ o, (w1.alloc o).cell? ⟨m.h, i, none⟩ = some (m.V i) := fun o => (g1.lis.alloc o).cell (by have := hD.hn.1; omega)
  have x5 : ∀ o, (w1.alloc o).frozen? ⟨m.h, i, none⟩ = false := fun o => (g1.lis.alloc o).frozen i
  have hin : (i : Int) < (D.n : Int) := by omega
  have hz : ((D.blk : Int) != (D.blk : Int)) = false := by simp
  generalize m.V i = vi at *
  generalize hq : D.load i zs = D' at *
  clear hq R' hO hB hrow hr g1 hD
  generalize m.h = hh at *
  generalize m.hc = hc at *
  generalize D.n = nn at *
  generalize D.blk = bb at *
  go_enter Try.func24, Try.ntmps24
  go_upto_region 5 with fail
  clear c1
  go_cut [] (fun wx => Hid (∃ S', Rv wx S' g D' ∧ Nx S w S' wx))
  case first =>
    go_region_law (refine step_append_run (by rfl) _ _ _ (by rfl) _ _ _ (by rfl) (by rfl) (unhide R) ?_; clear R)
    all_goals
      go_wp2_with fail
      go_meet
      exact F
  case rest =>
    clear R F x0 x1 x2 x3 x4 x5
    go_wp2_with fail
    go_ret
    exact ⟨rfl, unhide hcut⟩

end Go.Proofs.Ytikpmchjlpobdaa
