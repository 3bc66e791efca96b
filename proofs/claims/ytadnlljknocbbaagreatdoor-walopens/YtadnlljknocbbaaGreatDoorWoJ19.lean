/- Joined: DRRead, DRFlush, DRCrash, DRNew, DRWrite, DRWrite2. -/
import Derived.Test.YtadnlljknocbbaaGreatDoorWoJ18
import Derived.Deep.RegionLaw
import Derived.BigRegion
import Derived.Test.YtadnlljknocbbaaGreatDoorWoJ9
/- The contracts of the document's device: Read, Load. -/
namespace Go.Proofs.YtadnlljknocbbaaGreatDoor
open Go.RowKit Go.Shelf
set_option linter.unusedVariables false

/-- append([]byte{}, y...). -/
theorem app_new {w : World} {a : Option Addr} {n c : Nat} {zs : List Int} (h : Has w a n zs) (hn : n ≤ 10000) :
    ∃ a' c' w', (∀ ty, (Builtin.append_ #[50, 50] ty #[.slice (some ⟨w.heap.size, 0, none⟩) 0 0, .slice a n c]).run Tryz.prog (w.alloc (.cells #[] 5)) = .ok (.slice a' n c') w') ∧ Own w.heap.size w' a' n c' zs ∧ Below w.heap.size w w' := by
  have hb : Below w.heap.size w (w.alloc (.cells #[] 5)) := (Below.refl _ _).alloc (Nat.le_refl _) _
  have ho : Own w.heap.size (w.alloc (.cells #[] 5)) (some ⟨w.heap.size, 0, none⟩) 0 0 [] := ⟨rfl, Nat.le_refl _, by unfold maxLen; omega, .inr ⟨w.heap.size, #[], rfl, Nat.le_refl _, World.alloc_heap_new _ _, rfl, rfl⟩⟩
  obtain ⟨a', c', w', hr, hO, _, hB⟩ := run_append_bytes ho hb.size c (h.later hb) (by omega)
  rw [Nat.zero_add] at hr hO
  rw [List.nil_append] at hO
  exact ⟨a', c', w', hr, hO, hb.trans hB⟩

theorem app_newd {w : World} {a : Option Addr} {n c : Nat} {zs : List Int} (h : Has w a n zs) (hn : n ≤ 10000) :
    ∃ a' c' w', (∀ ty, (Builtin.append_ #[50, 50] ty #[.slice (some ⟨w.heap.size, 0, none⟩) 0 0, .slice a n c]).run Tryz.prog (w.alloc (.cells #[] 5)).drew = .ok (.slice a' n c') w') ∧ Own w.heap.size w' a' n c' zs ∧ Below w.heap.size w w' := by
  obtain ⟨a', c', w', h1, h2, h3⟩ := app_new (w := w.drew) (c := c) (h.drewN 1) hn
  exact ⟨a', c', w', h1, h2, undrew h3⟩

set_option maxRecDepth 100000 in
set_option maxHeartbeats 1000000 in
theorem rread_ok (g i : Nat) (S : Nat → Prop) (D : Dev) (w : World) (hD : Rv w S g D) (hd : D.dead = false) (hi : i < D.n) :
    Calls Tryz.prog 53 #[.pointer (some ⟨g, 0, none⟩), .int .i64 i] w fun e w' => ∃ a' c', e = .returned (.tuple #[.slice a' D.blk c', .int .i64 0]) ∧ Has w' a' D.blk (D.rd i) ∧ Below w.heap.size w w' := by
  obtain ⟨m, hD⟩ := hD
  obtain ⟨c0, c1, c2, c3, c4⟩ := hD.cells
  rw [hd] at c3
  obtain ⟨k, c, e1, e2, e3, e4, l1, l2, l3⟩ := hD.list hi
  obtain ⟨r, l4, l5⟩ := l3 (D.Y i).length (by omega)
  rw [rd_last] at l5
  have hb2 := hD.ok.b2
  have hn2 := hD.ok.n2
  have hy := hD.ok.y i hi
  obtain ⟨a', c', w', R', hO, hB⟩ := app_new (c := r.2) (l5.row hb2).has (by omega)
  have R := hide R'
  have H1 := hide hO.has
  have H2 := hide hB
  have l6 : ∀ o, (w.alloc o).cell? ⟨k, (D.Y i).length, none⟩ = some (rv D.blk r) := fun o => by
    have hb := (Below.refl w.heap.size w).alloc (Nat.le_refl _) o
    rw [hb.cell (p := ⟨k, (D.Y i).length, none⟩) (cell_block_lt l4)]
    exact l4
  unfold maxLen at e3
  have hin : (i : Int) < (D.n : Int) := by omega
  generalize hq : D.rd i = zs at *
  clear hq e1 l5 R' hO hB hD hd l2 l3 e4
  generalize (D.Y i).length = ly at *
  obtain ⟨r1, r2⟩ := r
  generalize m.h = hh at *
  generalize m.hc = hc at *
  generalize D.n = nn at *
  generalize D.blk = bb at *
  go_enter Tryz.func53, Tryz.ntmps53
  go_wp2_with (at_builtin; refine wpList_append_run 50 rfl _ _ rfl _ _ _ rfl rfl (unhide R) ?_; clear R)
  go_ret2
  exact ⟨a', c', rfl, unhide H1, unhide H2⟩

theorem own_rowAt {w w' : World} {S : Nat → Prop} {a' : Option Addr} {n c' : Nat} {zs : List Int} (hO : Own w.heap.size w' a' n c' zs) (hn : 1 ≤ n) (hz : ∀ z ∈ zs, 0 ≤ z ∧ z ≤ 255) : ∃ k, a' = some ⟨k, 0, none⟩ ∧ w.heap.size ≤ k ∧ k < w'.heap.size ∧ RowAt w' (exS S w w') n (k, c') zs := by
  obtain ⟨h1, h2, h3, h4⟩ := hO
  rcases h4 with ⟨_, h4, _⟩ | ⟨k, cur, rfl, hk, hh, hc, ht⟩
  · omega
  · have hlt := (Array.getElem?_eq_some_iff.1 hh).1
    exact ⟨k, rfl, hk, hlt, ⟨⟨h1, cur, hh, ht⟩, .inr ⟨hk, hlt⟩, h2, h3, hz⟩⟩

/-- A new list of one row. -/
theorem WR.single {w1 : World} {S : Nat → Prop} {blk : Nat} {r : Nat × Nat} {x : List Int} (hr : RowAt w1 S blk r x) {S' : Nat → Prop} (hS : ∀ k, S k → S' k) (hlt : ∀ k, S k → k < w1.heap.size) (hn : S' w1.heap.size) : WR (w1.alloc (.cells #[rv blk r] 50)) S' blk (.slice (some ⟨w1.heap.size, 0, none⟩) 1 1) [x] := by
  refine ⟨[r], ⟨rfl, .inr ⟨w1.heap.size, 1, #[rv blk r], rfl, Nat.zero_le _, World.alloc_heap_new _ _, Nat.le_refl _, by unfold maxLen; omega, rfl, rfl⟩⟩, fun j hj => ?_, fun k e => ?_⟩
  · obtain rfl : j = 0 := by simp at hj; exact hj
    exact hr.kept (fun k c hs _ => Below.heap_alloc w1 _ k (hlt k hs)) hS
  · simp [Value.ownBlock] at e
    subst e
    exact hn

/-- A list of one row, stored. -/
theorem RvM.fresh {w w1 : World} {S : Nat → Prop} {g : Nat} {D : Dev} {m : RMem} (h : RvM w S g D m) {i : Nat} (hi : i < D.n) (hb : Below w.heap.size w w1) {r : Nat × Nat} {x : List Int} (hr : RowAt w1 (exS S w w1) D.blk r x) :
    ∃ S', Rv ((w1.alloc (.cells #[rv D.blk r] 50)).setCell ⟨m.h, i, none⟩ (.slice (some ⟨w1.heap.size, 0, none⟩) 1 1)) S' g (D.put i x []) ∧ Nx S w S' ((w1.alloc (.cells #[rv D.blk r] 50)).setCell ⟨m.h, i, none⟩ (.slice (some ⟨w1.heap.size, 0, none⟩) 1 1)) := by
  have hb1 := (Below.refl w1.heap.size w1).alloc (Nat.le_refl _) (.cells #[rv D.blk r] 50)
  have hb2 : Below w.heap.size w (w1.alloc (.cells #[rv D.blk r] 50)) := hb.trans (hb1.mono hb.size)
  have h2 := h.grow hb2
  have hsz : (w1.alloc (.cells #[rv D.blk r] 50)).heap.size = w1.heap.size + 1 := by simp
  have hW : WR (w1.alloc (.cells #[rv D.blk r] 50)) (exS S w (w1.alloc (.cells #[rv D.blk r] 50))) D.blk (.slice (some ⟨w1.heap.size, 0, none⟩) 1 1) [x] := WR.single hr (fun k hk => by
      rcases hk with hk | hk
      · exact .inl hk
      · exact .inr ⟨hk.1, by omega⟩) (fun k hk => by
      rcases hk with hk | hk
      · exact Nat.lt_of_lt_of_le (h.lt k hk) hb.size
      · exact hk.2) (.inr ⟨hb.size, by omega⟩)
  have h3 := h2.setL hi hW (by simp) (fun j k hj hji e e2 => by
    simp [Value.ownBlock] at e2
    subst e2
    have := h.lt _ ((h.row j hj).own e).1
    have := hb.size
    omega)
  exact ⟨_, ⟨_, h3⟩, (Nx.grow hb2).trans (Nx.set (p := ⟨m.h, i, none⟩) h2.sh _)⟩

set_option maxRecDepth 100000 in
/-- What Load and Write refuse. -/
theorem rload_bad (g : Nat) (b : Int) (a : Option Addr) (len cap : Nat) (S : Nat → Prop) (D : Dev) (w : World) (hD : Rv w S g D) (hr : refE D b len ≠ 0) :
    Calls Tryz.prog 25 #[.pointer (some ⟨g, 0, none⟩), .int .i64 b, .slice a len cap] w fun e w' => e = .returned (.int .i64 (refE D b len)) ∧ w = w' := by
  obtain ⟨m, hD⟩ := hD
  obtain ⟨c0, c1, c2, c3, c4⟩ := hD.cells
  generalize hq : refE D b len = q at *
  have hQ := hide hq
  clear hq
  unfold refE at hQ
  by_cases hb : 0 ≤ b ∧ b < D.n
  · have hl : ¬ len = D.blk := fun e => hr (by rw [← unhide hQ, if_neg (fun h => h hb), if_neg (fun h => h e)])
    have hq1 : q = 1 := by rw [← unhide hQ, if_neg (fun h => h hb), if_pos hl]
    have hz : ((len : Int) != (D.blk : Int)) = true := by simp; omega
    subst hq1
    obtain ⟨hb1, hb2⟩ := hb
    have n1 : ¬ b < 0 := by omega
    have n2 : ¬ (D.n : Int) ≤ b := by omega
    generalize D.blk = bb at *
    generalize D.n = nn at *
    clear hD hr hQ hl
    go_enter Tryz.func25, Tryz.ntmps25
    go_wp2
    go_ret
    exact ⟨rfl, rfl⟩
  · have hq1 : q = 2 := by rw [← unhide hQ, if_pos hb]
    subst hq1
    generalize D.blk = bb at *
    generalize D.n = nn at *
    clear hD hr hQ
    by_cases n1 : b < 0
    · clear hb
      go_enter Tryz.func25, Tryz.ntmps25
      go_wp2
      go_ret
      exact ⟨rfl, rfl⟩
    · have n2 : (nn : Int) ≤ b := by omega
      clear hb
      go_enter Tryz.func25, Tryz.ntmps25
      go_wp2
      go_ret
      exact ⟨rfl, rfl⟩

set_option maxRecDepth 100000 in
set_option maxHeartbeats 1000000 in
theorem rload_ok (g i : Nat) (a : Option Addr) (cap : Nat) (zs : List Int) (S : Nat → Prop) (D : Dev) (w : World) (hD : Rv w S g D) (hi : i < D.n) (hr : Row w.heap.size w a D.blk cap zs) :
    Calls Tryz.prog 25 #[.pointer (some ⟨g, 0, none⟩), .int .i64 i, .slice a D.blk cap] w fun e w' => e = .returned (.int .i64 0) ∧ ∃ S', Rv w' S' g (D.load i zs) ∧ Nx S w S' w' := by
  obtain ⟨m, hD⟩ := hD
  obtain ⟨c0, c1, c2, c3, c4⟩ := hD.cells
  have hn := hD.ok.n2
  have hb1 := hD.ok.b1
  have hb2 := hD.ok.b2
  obtain ⟨a', c', w1, R', hO, hB⟩ := app_newd (c := cap) hr.has (by omega)
  obtain ⟨k, rfl, hk1, hk2, hrow⟩ := own_rowAt (S := S) hO hb1 hr.2.2.2.1
  have F : Hid (∃ S', Rv ((w1.alloc (.cells #[.slice (some ⟨k, 0, none⟩) D.blk c'] 50)).setCell ⟨m.h, i, none⟩ (.slice (some ⟨w1.heap.size, 0, none⟩) 1 1)) S' g (D.load i zs) ∧ Nx S w S' ((w1.alloc (.cells #[.slice (some ⟨k, 0, none⟩) D.blk c'] 50)).setCell ⟨m.h, i, none⟩ (.slice (some ⟨w1.heap.size, 0, none⟩) 1 1))) := hD.fresh hi hB hrow
  have R := hide R'
  have g1 := hD.grow hB
  have x0 : w.drew.cell? ⟨g, 1, none⟩ = some (.slice (some ⟨m.h, 0, none⟩) D.n m.hc) := c1
  have x1 : ∀ o, (w.alloc o).cell? ⟨g, 1, none⟩ = some (.slice (some ⟨m.h, 0, none⟩) D.n m.hc) := fun o => (hD.dev.alloc o).cell (i := 1) (by omega)
  have x2 : w1.cell? ⟨g, 1, none⟩ = some (.slice (some ⟨m.h, 0, none⟩) D.n m.hc) := g1.cells.2.1
  have x3 : ∀ o, (w1.alloc o).cell? ⟨g, 1, none⟩ = some (.slice (some ⟨m.h, 0, none⟩) D.n m.hc) := fun o => (g1.dev.alloc o).cell (i := 1) (by omega)
  have x4 : ∀ o, (w1.alloc o).cell? ⟨m.h, i, none⟩ = some (m.V i) := fun o => (g1.lis.alloc o).cell (by have := hD.hn.1; omega)
  have x5 : ∀ o, (w1.alloc o).frozen? ⟨m.h, i, none⟩ = false := fun o => (g1.lis.alloc o).frozen i
  have hin : (i : Int) < (D.n : Int) := by omega
  have hz : ((D.blk : Int) != (D.blk : Int)) = false := by simp
  generalize m.V i = vi at *
  generalize hq : D.load i zs = D' at *
  clear hq R' hO hB hrow hr g1 hD
  generalize m.h = hh at *
  generalize m.hc = hc at *
  generalize D.n = nn at *
  generalize D.blk = bb at *
  go_enter Tryz.func25, Tryz.ntmps25
  go_upto_region 5 with fail
  clear c1
  go_cut [] (fun wx => Hid (∃ S', Rv wx S' g D' ∧ Nx S w S' wx))
  case first =>
    go_region_law (refine step_append_run (by rfl) _ _ _ (by rfl) _ _ _ (by rfl) (by rfl) (unhide R) ?_; clear R)
    all_goals
      go_wp2_with fail
      go_meet
      exact F
  case rest =>
    clear R F x0 x1 x2 x3 x4 x5
    go_wp2_with fail
    go_ret
    exact ⟨rfl, unhide hcut⟩

end Go.Proofs.YtadnlljknocbbaaGreatDoor

/- The contracts of the document's device: Flush, Waiting. -/
namespace Go.Proofs.YtadnlljknocbbaaGreatDoor
open Go.RowKit Go.Shelf
set_option linter.unusedVariables false

theorem flush_put (D : Dev) (k : Nat) : (D.flushTo k).put k (D.rd k) [] = D.flushTo (k + 1) := by
  unfold Dev.put
  simp only [Dev.flushTo]
  congr 1
  · funext j
    by_cases e : j = k
    · subst e; simp
    · by_cases e2 : j < k
      · simp [e, e2, show j < k + 1 by omega]
      · simp [e, e2, show ¬ j < k + 1 by omega]
  · funext j
    by_cases e : j = k
    · subst e; simp
    · by_cases e2 : j < k
      · simp [e, e2, show j < k + 1 by omega]
      · simp [e, e2, show ¬ j < k + 1 by omega]

theorem Rv.drew {w : World} {S : Nat → Prop} {g : Nat} {D : Dev} (h : Rv w S g D) : Rv w.drew S g D := h.kept (fun _ _ => rfl) (Nat.le_refl _)

theorem Nx.drew {S S' : Nat → Prop} {w w' : World} (h : Nx S w S' w') : Nx S w S' w'.drew := ⟨⟨h.fr.os, h.fr.tape, h.fr.output, h.fr.size, h.fr.block⟩, h.sub⟩

/-- Row j of block k, stored as its only one. -/
theorem Rv.one {w : World} {S : Nat → Prop} {g : Nat} {D : Dev} (h : Rv w S g D) {k : Nat} (hk : k < D.n) (j : Nat) (hj : j ≤ (D.Y k).length) :
    ∃ hh hc kk c r1 r2, w.cell? ⟨g, 1, none⟩ = some (.slice (some ⟨hh, 0, none⟩) D.n hc) ∧ (∀ o, (w.alloc o).cell? ⟨g, 1, none⟩ = some (.slice (some ⟨hh, 0, none⟩) D.n hc)) ∧
      w.cell? ⟨hh, k, none⟩ = some (.slice (some ⟨kk, 0, none⟩) ((D.Y k).length + 1) c) ∧ (∀ o, (w.alloc o).cell? ⟨hh, k, none⟩ = some (.slice (some ⟨kk, 0, none⟩) ((D.Y k).length + 1) c)) ∧ (∀ o, (w.alloc o).frozen? ⟨hh, k, none⟩ = false) ∧
      w.cell? ⟨kk, j, none⟩ = some (.slice (some ⟨r1, 0, none⟩) D.blk r2) ∧ (∀ o, (w.alloc o).cell? ⟨kk, j, none⟩ = some (.slice (some ⟨r1, 0, none⟩) D.blk r2)) ∧
      Hid (∃ S', Rv ((w.alloc (.cells #[.slice (some ⟨r1, 0, none⟩) D.blk r2] 50)).setCell ⟨hh, k, none⟩ (.slice (some ⟨w.heap.size, 0, none⟩) 1 1)).drew S' g (D.put k ((D.X k :: D.Y k)[j]?.getD []) []) ∧ Nx S w S' ((w.alloc (.cells #[.slice (some ⟨r1, 0, none⟩) D.blk r2] 50)).setCell ⟨hh, k, none⟩ (.slice (some ⟨w.heap.size, 0, none⟩) 1 1)).drew) := by
  obtain ⟨m, h⟩ := h
  obtain ⟨kk, c, e1, e2, e3, e4, l1, l2, l3⟩ := h.list hk
  obtain ⟨r, l4, l5⟩ := l3 j (by omega)
  have hal : ∀ (p : Addr) (v : Value) (o : Obj), w.cell? p = some v → (w.alloc o).cell? p = some v := fun p v o hc => by
    have hb := (Below.refl w.heap.size w).alloc (Nat.le_refl _) o
    rw [hb.cell (p := p) (cell_block_lt hc)]
    exact hc
  refine ⟨m.h, m.hc, kk, c, r.1, r.2, h.cells.2.1, fun o => hal _ _ o h.cells.2.1, l1, fun o => hal _ _ o l1, fun o => (h.lis.alloc o).frozen k, l4, fun o => hal _ _ o l4, ?_⟩
  obtain ⟨S', x1, x2⟩ := h.fresh hk (Below.refl _ _) (l5.kept (S' := exS S w w) (fun _ _ _ _ => rfl) (fun k hk => .inl hk))
  exact ⟨S', x1.drew, x2.drew⟩

set_option maxRecDepth 100000 in
theorem rflush_dies (g : Nat) (S : Nat → Prop) (D : Dev) (w : World) (hD : Rv w S g D) (hb : D.burnt) :
    Calls Tryz.prog 52 #[.pointer (some ⟨g, 0, none⟩)] w fun e w' => e = .returned (.int .i64 7) ∧ Rv w' S g D.die ∧ Nx S w S w' := by
  have K := hide (rburn_dies g S D w hD hb)
  clear hD hb
  go_enter Tryz.func52, Tryz.ntmps52
  go_wp2_with fail
  go_at_call 93
  refine (unhide K).mono ?_
  rintro e w' ⟨rfl, h1⟩
  have F := hide h1
  clear K h1
  go_wp2
  go_ret
  exact ⟨rfl, unhide F⟩

set_option maxRecDepth 100000 in
set_option maxHeartbeats 2000000 in
theorem rflush_ok (g : Nat) (S : Nat → Prop) (D : Dev) (w : World) (hD : Rv w S g D) (hb : ¬ D.burnt) :
    Calls Tryz.prog 52 #[.pointer (some ⟨g, 0, none⟩)] w fun e w' => e = .returned (.int .i64 0) ∧ ∃ S', Rv w' S' g D.burn.flush ∧ Nx S w S' w' := by
  have K := hide (rburn_burns g S D w hD hb)
  have hn := hD.ok.n2
  have hE : Hid (D.burn.flush = D.burn.flushTo D.n) := rfl
  obtain ⟨nn, hN⟩ : ∃ nn, nn = D.n := ⟨_, rfl⟩
  have hyb : Hid (∀ k, k < nn → (D.burn.Y k).length ≤ 400) := by rw [hN]; exact hD.ok.y
  have KS : Hid (∀ wr S1 k, k < nn → Rv wr S1 g (D.burn.flushTo k) → Nx S w S1 wr → ∃ hh hc kk c r1 r2, wr.cell? ⟨g, 1, none⟩ = some (.slice (some ⟨hh, 0, none⟩) nn hc) ∧ (∀ o, (wr.alloc o).cell? ⟨g, 1, none⟩ = some (.slice (some ⟨hh, 0, none⟩) nn hc)) ∧
      wr.cell? ⟨hh, k, none⟩ = some (.slice (some ⟨kk, 0, none⟩) ((D.burn.Y k).length + 1) c) ∧ (∀ o, (wr.alloc o).cell? ⟨hh, k, none⟩ = some (.slice (some ⟨kk, 0, none⟩) ((D.burn.Y k).length + 1) c)) ∧ (∀ o, (wr.alloc o).frozen? ⟨hh, k, none⟩ = false) ∧
      wr.cell? ⟨kk, (D.burn.Y k).length, none⟩ = some (.slice (some ⟨r1, 0, none⟩) D.burn.blk r2) ∧ (∀ o, (wr.alloc o).cell? ⟨kk, (D.burn.Y k).length, none⟩ = some (.slice (some ⟨r1, 0, none⟩) D.burn.blk r2)) ∧
      Hid (∃ S', Rv ((wr.alloc (.cells #[.slice (some ⟨r1, 0, none⟩) D.burn.blk r2] 50)).setCell ⟨hh, k, none⟩ (.slice (some ⟨wr.heap.size, 0, none⟩) 1 1)).drew S' g (D.burn.flushTo (k + 1)) ∧ Nx S w S' ((wr.alloc (.cells #[.slice (some ⟨r1, 0, none⟩) D.burn.blk r2] 50)).setCell ⟨hh, k, none⟩ (.slice (some ⟨wr.heap.size, 0, none⟩) 1 1)).drew)) := by
    intro wr S1 k hk h hx
    have e2 : (D.burn.flushTo k).Y k = D.burn.Y k := by simp [Dev.flushTo]
    have e3 : (D.burn.flushTo k).X k = D.burn.X k := by simp [Dev.flushTo]
    obtain ⟨hh, hc, kk, c, r1, r2, x1, x2, x3, x4, x5, x6, x7, S', x8, x9⟩ := h.one (k := k) (by rw [hN] at hk; exact hk) (D.burn.Y k).length (by rw [e2]; exact Nat.le_refl _)
    rw [e2] at x3 x4
    rw [e2, e3, rd_last, flush_put] at x8
    rw [hN]
    exact ⟨hh, hc, kk, c, r1, r2, x1, x2, x3, x4, x5, x6, x7, S', x8, hx.trans x9⟩
  have KC : Hid (∀ wr S1 k, Rv wr S1 g (D.burn.flushTo k) → ∃ h' hc, wr.cell? ⟨g, 1, none⟩ = some (.slice (some ⟨h', 0, none⟩) nn hc)) := by
    intro wr S1 k h
    obtain ⟨m, h⟩ := h
    rw [hN]
    exact ⟨m.h, m.hc, h.cells.2.1⟩
  rw [← flush_start D.burn] at K
  rw [← hN] at hn hE
  clear hb hN hD
  generalize D.burn = D1 at *
  rw [unhide hE]
  clear hE
  go_enter Tryz.func52, Tryz.ntmps52
  go_wp2_with fail
  go_at_call 93
  refine (unhide K).mono ?_
  rintro e w1 ⟨rfl, h1, h2⟩
  have F : Hid (∃ S', Rv w1 S' g (D1.flushTo 0) ∧ Nx S w S' w1) := ⟨S, h1, h2⟩
  clear K h1 h2
  go_upto_region 4 with fail
  go_loopw [3] (fun i wr => ∃ k : Nat, k ≤ nn ∧ i = .int .i64 (k : Int) ∧ Hid (∃ S', Rv wr S' g (D1.flushTo k) ∧ Nx S w S' wr)) (fun i _ => nn - (intOf i).toNat)
  case atStart => exact ⟨0, Nat.zero_le _, rfl, F⟩
  case round =>
    obtain ⟨k, hk, rfl, hF⟩ := hrel
    clear F
    obtain ⟨S1, f1, f2⟩ := unhide hF
    by_cases hlt : k < nn
    · obtain ⟨hh, hc, kk, c, r1, r2, x1, x2, x3, x4, x5, x6, x7, x8⟩ := unhide KS wr S1 k hlt f1 f2
      have y1 : wr.drew.cell? ⟨g, 1, none⟩ = some (.slice (some ⟨hh, 0, none⟩) nn hc) := x1
      have y3 : wr.drew.cell? ⟨hh, k, none⟩ = some (.slice (some ⟨kk, 0, none⟩) ((D1.Y k).length + 1) c) := x3
      have y6 : wr.drew.cell? ⟨kk, (D1.Y k).length, none⟩ = some (.slice (some ⟨r1, 0, none⟩) D1.blk r2) := x6
      have hly := unhide hyb k hlt
      have hin : (k : Int) < (nn : Int) := by omega
      generalize (D1.Y k).length = ly at *
      generalize D1.blk = bb at *
      have m1 : IntKind.i64.wrap (((ly + 1 : Nat) : Int) - 1) = (ly : Int) := by rw [IntKind.wrap_i64]; omega
      have m2 : wrap64 (((ly + 1 : Nat) : Int) - 1) = (ly : Int) := by unfold wrap64; omega
      have m3 : ((ly + 1 : Nat) : Int) - 1 = (ly : Int) := by omega
      have m4 : (ly : Int) < ((ly + 1 : Nat) : Int) := by omega
      clear KS KC hF f1 f2 hyb
      go_upto_region 6 with fail
      clear x1
      go_region
      all_goals
        go_wp2_with fail
        exact ⟨⟨k + 1, by omega, by go_num, x8⟩, by simp [intOf]; omega⟩
    · obtain ⟨h', hc, c1⟩ := unhide KC wr S1 k f1
      have hkn : k = nn := by omega
      have F2 : Hid (∃ S', Rv wr S' g (D1.flushTo nn) ∧ Nx S w S' wr) := by rw [← hkn]; exact hF
      have nk : ¬ (k : Int) < (nn : Int) := by omega
      clear KS KC hF f1 f2 hkn hyb
      go_wp2_with fail
      go_ret
      exact ⟨rfl, unhide F2⟩

end Go.Proofs.YtadnlljknocbbaaGreatDoor

/- The contracts of the document's device: Waiting, Crash. -/
namespace Go.Proofs.YtadnlljknocbbaaGreatDoor
open Go.RowKit Go.Shelf
set_option linter.unusedVariables false

set_option maxRecDepth 100000 in
set_option maxHeartbeats 2000000 in
theorem rwaiting (g : Nat) (S : Nat → Prop) (D : Dev) (w : World) (hD : Rv w S g D) :
    Calls Tryz.prog 65 #[.pointer (some ⟨g, 0, none⟩)] w fun e w' => ∃ a c, e = .returned (.slice a D.waitL.length c) ∧ IOwn w.heap.size w' a D.waitL.length c D.waitL ∧ Below w.heap.size w w' := by
  obtain ⟨m, hD⟩ := hD
  have hn := hD.ok.n2
  have KP : Hid (∀ wr, Below w.heap.size w wr → wr.cell? ⟨g, 1, none⟩ = some (.slice (some ⟨m.h, 0, none⟩) D.n m.hc) ∧ ∀ k, k < D.n → ∃ kk c, wr.cell? ⟨m.h, k, none⟩ = some (.slice (some ⟨kk, 0, none⟩) ((D.Y k).length + 1) c) ∧ (D.Y k).length ≤ 400) := by
    intro wr hb
    have h1 := hD.grow hb
    refine ⟨h1.cells.2.1, fun k hk => ?_⟩
    obtain ⟨kk, c, _, _, _, _, l1, _⟩ := h1.list hk
    exact ⟨kk, c, l1, hD.ok.y k hk⟩
  have G0 : Hid (Gr w.heap.size w (.slice none 0 0) (D.waitTo 0)) := World.ownsRow_nil _ _ _ _
  have B0 : Hid (Below w.heap.size w w) := Below.refl _ _
  have hE : Hid (D.waitL = D.waitTo D.n) := rfl
  generalize m.h = hh at *
  generalize m.hc = hc at *
  generalize hN : D.n = nn at *
  generalize D.waitL = WL at *
  clear hD hN
  generalize hB0 : w.heap.size = B at *
  have hB := hide hB0.symm
  clear hB0
  go_enter Tryz.func65, Tryz.ntmps65
  go_upto_region 3 with fail
  go_loopw [4, 3] (fun i v wr => ∃ (k : Nat) (a' : Option Addr) (c' : Nat), k ≤ nn ∧ i = .int .i64 (k : Int) ∧ v = .slice a' (D.waitTo k).length c' ∧ Hid (Gr B wr v (D.waitTo k)) ∧ Hid (Below B w wr)) (fun i _ _ => nn - (intOf i).toNat)
  case atStart => exact ⟨0, none, 0, Nat.zero_le _, rfl, rfl, G0, B0⟩
  case round =>
    obtain ⟨k, a', c', hk, rfl, rfl, hG, hX⟩ := hrel
    clear G0 B0
    obtain ⟨x1, KQ⟩ := unhide KP wr (unhide hX)
    by_cases hlt : k < nn
    · obtain ⟨kk, c, x2, hly⟩ := KQ k hlt
      clear KP KQ
      have hin : (k : Int) < (nn : Int) := by omega
      have hl := hide (waitTo_len D k)
      by_cases hY : D.Y k = []
      · have G2 := hide (show D.waitTo (k + 1) = D.waitTo k by simp [Dev.waitTo, hY])
        rw [hY] at x2
        simp only [List.length_nil, Nat.zero_add] at x2
        clear hY hly
        generalize hlw : (D.waitTo k).length = lw at *
        have HL := hide hlw
        clear hlw
        go_wp2_with fail
        refine ⟨⟨k + 1, a', c', by omega, by go_num, ?_, ?_, hX⟩, by simp [intOf]; omega⟩
        · rw [unhide G2, unhide HL]
        · rw [unhide G2]; exact hG
      · have hp : 0 < (D.Y k).length := List.length_pos_iff.2 hY
        have G2 := hide (show D.waitTo (k + 1) = D.waitTo k ++ [(k : Int), ((D.Y k).length : Int)] by simp [Dev.waitTo, hY])
        clear hY
        generalize hly2 : (D.Y k).length = ly at *
        clear hly2
        have hs : B ≤ wr.heap.size := by
          have := (unhide hX).size
          rw [unhide hB]; exact this
        obtain ⟨v', w2, R', G4, X4⟩ := (unhide hG).two hs (by have := unhide hl; omega) (k : Int) (ly : Int)
        obtain ⟨a2, c2, rfl⟩ := G4.shape
        have R := hide R'
        have G5 := hide G4
        have X5 := hide ((unhide hX).trans X4)
        generalize hlw : (D.waitTo k).length = lw at *
        have HL := hide hlw
        have m2 : wrap64 (((ly + 1 : Nat) : Int) - 1) = (ly : Int) := by unfold wrap64; omega
        have m3 : ((ly + 1 : Nat) : Int) - 1 = (ly : Int) := by omega
        have m4 : (1 : Int) < ((ly + 1 : Nat) : Int) := by omega
        clear R' G4 X4 hlw hG hX hs hp
        go_wp2_with (at_builtin; refine wpList_append_run 40 rfl _ _ rfl _ _ _ rfl rfl (unhide R) ?_; clear R)
        refine ⟨⟨k + 1, a2, c2, by omega, by go_num, ?_, ?_, X5⟩, by simp [intOf]; omega⟩
        · rw [unhide G2, List.length_append]; rfl
        · rw [unhide G2]
          have := unhide G5
          rw [List.length_append] at this
          exact this
    · have hkn : k = nn := by omega
      have nk : ¬ (k : Int) < (nn : Int) := by omega
      have HG := unhide hG
      rw [hkn, ← unhide hE] at HG
      obtain ⟨a2, c2, e, ho⟩ := HG.own
      have e2 : (D.waitTo k).length = WL.length := by rw [hkn, unhide hE]
      rw [e2]
      cases e
      have HO := hide ho
      clear KP KQ hG HG ho hkn e2
      go_wp2_with fail
      go_ret
      exact ⟨_, _, rfl, unhide HO, unhide hX⟩

theorem cnt_leR (D : Dev) : ∀ b, D.cnt b ≤ b
  | 0 => Nat.le_refl _
  | b + 1 => by
    have := cnt_leR D b
    simp only [Dev.cnt]
    split <;> omega

theorem waitTo_cnt (D : Dev) : ∀ k, (D.waitTo k).length = 2 * D.cnt k
  | 0 => rfl
  | k + 1 => by
    have := waitTo_cnt D k
    simp only [Dev.waitTo, Dev.cnt, List.length_append]
    by_cases h : D.Y k = []
    · simp [h, this]
    · simp [h, this]; omega

theorem waitTo_prefix (D : Dev) {a b : Nat} (h : a ≤ b) : ∃ r, D.waitTo b = D.waitTo a ++ r := by
  induction b with
  | zero => obtain rfl : a = 0 := by omega
            exact ⟨[], by simp⟩
  | succ b ih =>
    by_cases e : a = b + 1
    · subst e; exact ⟨[], by simp⟩
    · obtain ⟨r, hr⟩ := ih (by omega)
      exact ⟨r ++ _, by simp only [Dev.waitTo]; rw [hr, List.append_assoc]⟩

/-- The pair of block b in the list of what waits. -/
theorem waitTo_pair (D : Dev) {b n : Nat} (hb : b < n) (hY : D.Y b ≠ []) : (D.waitTo n)[2 * D.cnt b]? = some (b : Int) ∧ (D.waitTo n)[2 * D.cnt b + 1]? = some ((D.Y b).length : Int) := by
  obtain ⟨r, hr⟩ := waitTo_prefix D (show b + 1 ≤ n by omega)
  have hl := waitTo_cnt D b
  have e : D.waitTo (b + 1) = D.waitTo b ++ [(b : Int), ((D.Y b).length : Int)] := by simp [Dev.waitTo, hY]
  rw [hr, e, List.append_assoc]
  constructor
  · rw [List.getElem?_append_right (by omega), hl, Nat.sub_self]; rfl
  · rw [List.getElem?_append_right (by omega), hl, show 2 * D.cnt b + 1 - 2 * D.cnt b = 1 by omega]; rfl

/-- The next block of which writes wait. -/
theorem next_block (D : Dev) (ps : List Int) {n : Nat} : ∀ (d b : Nat), n - b = d → b ≤ n → D.cnt b < D.cnt n → ∃ b', b ≤ b' ∧ b' < n ∧ D.Y b' ≠ [] ∧ D.cnt b' = D.cnt b ∧ D.crashTo ps b = D.crashTo ps b'
  | 0, b, hd, hb, hc => by
    obtain rfl : b = n := by omega
    omega
  | d + 1, b, hd, hb, hc => by
    by_cases h : D.Y b = []
    · have e : D.cnt (b + 1) = D.cnt b := by simp [Dev.cnt, h]
      have hbn : b + 1 ≤ n := by omega
      have hd2 : n - (b + 1) = d := by omega
      obtain ⟨b', x1, x2, x3, x4, x5⟩ := next_block D ps d (b + 1) hd2 hbn (by rw [e]; exact hc)
      exact ⟨b', by omega, x2, x3, x4.trans e, (crash_skip D ps b h).trans x5⟩
    · exact ⟨b, Nat.le_refl _, by omega, h, rfl, rfl⟩

theorem cnt_mono (D : Dev) {a b : Nat} (h : a ≤ b) : D.cnt a ≤ D.cnt b := by
  induction b with
  | zero => obtain rfl : a = 0 := by omega
            exact Nat.le_refl _
  | succ b ih =>
    by_cases e : a = b + 1
    · rw [e]; exact Nat.le_refl _
    · have := ih (by omega)
      simp only [Dev.cnt]
      omega

/-- No more block of which writes wait. -/
theorem last_block (D : Dev) (ps : List Int) {n : Nat} : ∀ (d b : Nat), n - b = d → b ≤ n → D.cnt b = D.cnt n → D.crashTo ps b = D.crashTo ps n
  | 0, b, hd, hb, hc => by
    obtain rfl : b = n := by omega
    rfl
  | d + 1, b, hd, hb, hc => by
    have hm := cnt_mono D (show b + 1 ≤ n by omega)
    have h : D.Y b = [] := by
      by_cases h : D.Y b = []
      · exact h
      · have e : D.cnt (b + 1) = D.cnt b + 1 := by simp [Dev.cnt, h]
        omega
    have e : D.cnt (b + 1) = D.cnt b := by simp [Dev.cnt, h]
    exact (crash_skip D ps b h).trans (last_block D ps d (b + 1) (by omega) (by omega) (by omega))

/-- The row that a pick names. -/
theorem pick_row (D : Dev) (b : Nat) (q : Int) : (D.X b :: D.Y b)[min q.toNat (D.Y b).length]?.getD [] = D.pick b q := by
  unfold Dev.pick
  by_cases h : q ≤ 0
  · rw [if_pos h, show q.toNat = 0 by omega, Nat.zero_min]; rfl
  · rw [if_neg h]
    by_cases hY : (D.Y b).length = 0
    · rw [hY, Nat.min_zero]
      have : D.Y b = [] := List.eq_nil_of_length_eq_zero hY
      rw [this]; rfl
    · obtain ⟨l, hl⟩ : ∃ l, min q.toNat (D.Y b).length = l + 1 := ⟨min q.toNat (D.Y b).length - 1, by omega⟩
      rw [hl, List.getElem?_cons_succ, Nat.add_sub_cancel, List.getElem?_eq_getElem (by omega)]
      rfl

theorem RvM.setL2 {w : World} {S : Nat → Prop} {g : Nat} {D : Dev} {m : RMem} (h : RvM w S g D m) :
    Rv ((w.setCell ⟨g, 3, none⟩ (.bool false)).setCell ⟨g, 2, none⟩ (.int .i64 (-1))) S g D.live ∧ Nx S w S ((w.setCell ⟨g, 3, none⟩ (.bool false)).setCell ⟨g, 2, none⟩ (.int .i64 (-1))) := by
  have s0 : RvM (w.setCell ⟨g, 3, none⟩ (.bool false)) S g { D with dead := false } m := h.setG 3 _ ⟨rfl, rfl, rfl, rfl⟩ (fun j hj => by
    rcases five j hj with rfl | rfl | rfl | rfl | rfl <;> simp [rcell]) ⟨h.ok.n1, h.ok.n2, h.ok.b1, h.ok.b2, h.ok.y, h.ok.f1, h.ok.f2⟩
  have s1 : RvM ((w.setCell ⟨g, 3, none⟩ (.bool false)).setCell ⟨g, 2, none⟩ (.int .i64 (-1))) S g D.live m := s0.setG 2 _ ⟨rfl, rfl, rfl, rfl⟩ (fun j hj => by
    rcases five j hj with rfl | rfl | rfl | rfl | rfl <;> simp [rcell, Dev.live]) ⟨h.ok.n1, h.ok.n2, h.ok.b1, h.ok.b2, h.ok.y, by simp [Dev.live], by simp [Dev.live]⟩
  exact ⟨⟨_, s1⟩, (Nx.set (p := ⟨g, 3, none⟩) h.sg _).trans (Nx.set (p := ⟨g, 2, none⟩) h.sg _)⟩

end Go.Proofs.YtadnlljknocbbaaGreatDoor

/- The contract of the document's New. -/
namespace Go.Proofs.YtadnlljknocbbaaGreatDoor
open Go.RowKit Go.Shelf
set_option linter.unusedVariables false
set_option maxRecDepth 100000

theorem infoL : (Tryz.prog.info? 80).map (fun i => (i.zero, i.size, i.bytes)) = some (some (.slice none 0 0), 1, 24) := by kernel_rfl

def ncell (blk : Nat) (v : Value) (j : Nat) : Value := if j = 0 then .int .i64 blk else if j = 1 then v else if j = 2 then .int .i64 (-1) else if j = 3 then .bool false else .int .i64 0

/-- The document's device of which k blocks are laid. -/
structure RNI (w : World) (g blk k : Nat) (u : World) (v : Value) (q : Nat → Nat) : Prop where
  dev : u.rowIs g 87 5 (ncell blk v)
  own : u.ownsRow w.heap.size 80 1 v k ((List.range k).map (fun i => .slice (some ⟨q i, 0, none⟩) 1 1))
  row : ∀ i, i < k → WR u (fun s => w.heap.size ≤ s ∧ s < u.heap.size) blk (.slice (some ⟨q i, 0, none⟩) 1 1) [List.replicate blk 0]
  inj : ∀ i j, i < k → j < k → q i = q j → i = j
  gB : w.heap.size ≤ g
  bel : Below w.heap.size w u

theorem RNI.lt {w : World} {g blk k : Nat} {u : World} {v : Value} {q : Nat → Nat} (h : RNI w g blk k u v q) {i : Nat} (hi : i < k) : w.heap.size ≤ q i ∧ q i < u.heap.size ∧ ∃ cur, u.heap[q i]? = some (.cells cur 50 (0, 0)) := by
  obtain ⟨h1, h2⟩ := (h.row i hi).own (k := q i) rfl
  exact ⟨h1.1, h1.2, h2⟩

theorem RNI.shape {w : World} {g blk k : Nat} {u : World} {v : Value} {q : Nat → Nat} (h : RNI w g blk k u v q) : ∃ a c, v = .slice a k c := by
  rcases h.own.2 with ⟨e, e0⟩ | ⟨g', c, _, e, _⟩
  · exact ⟨none, 0, by rw [e, e0]⟩
  · exact ⟨_, c, e⟩

theorem RNI.step {w : World} {g blk k : Nat} {u : World} {v : Value} {q : Nat → Nat} (h : RNI w g blk k u v q) (hb1 : 1 ≤ blk) (hb2 : blk ≤ 4096) (hk : k ≤ 5000) (U : World)
    (hU : U = (((u.alloc (.cells (madeCells #[.int .u8 0] blk) 5)).alloc (.cells #[.slice (some ⟨u.heap.size, 0, none⟩) blk blk] 50)).alloc (.cells #[.slice (some ⟨u.heap.size + 1, 0, none⟩) 1 1] 80)).drew) :
    ∃ v' w2, (∀ ty, (Builtin.append_ #[85, 85] ty #[v, .slice (some ⟨u.heap.size + 2, 0, none⟩) 1 1]).run Tryz.prog U = .ok v' w2) ∧ w2.cell? ⟨g, 1, none⟩ = some v ∧ w2.frozen? ⟨g, 1, none⟩ = false ∧ ∃ q', RNI w g blk (k + 1) (w2.setCell ⟨g, 1, none⟩ v') v' q' := by
  obtain ⟨i0, hi, hz0, hz1, hz2⟩ := info_parts infoL
  have hs := h.bel.size
  have b1 := (Below.refl u.heap.size u).alloc (Nat.le_refl _) (.cells (madeCells #[.int .u8 0] blk) 5)
  have hB0 : Block (u.alloc (.cells (madeCells #[.int .u8 0] blk) 5)) u.heap.size (List.replicate blk 0) := by
    unfold Block
    rw [World.alloc_heap_new, ← Array.toArray_toList (xs := madeCells #[.int .u8 0] blk), toList_madeCells_one]
    simp
  have s1 : (u.alloc (.cells (madeCells #[.int .u8 0] blk) 5)).heap.size = u.heap.size + 1 := by simp
  have hrow := RowAt.new (S := fun s => w.heap.size ≤ s ∧ s < u.heap.size) hB0 (by simp) hb2 (fun z hz => by have := List.eq_of_mem_replicate hz; omega)
  generalize u.alloc (.cells (madeCells #[.int .u8 0] blk) 5) = u1 at *
  have b2 := (Below.refl u1.heap.size u1).alloc (Nat.le_refl _) (.cells #[.slice (some ⟨u.heap.size, 0, none⟩) blk blk] 50)
  have hW2 : WR (u1.alloc (.cells #[.slice (some ⟨u.heap.size, 0, none⟩) blk blk] 50)) (fun s => w.heap.size ≤ s ∧ s < (u1.alloc (.cells #[.slice (some ⟨u.heap.size, 0, none⟩) blk blk] 50)).heap.size) blk (.slice (some ⟨u1.heap.size, 0, none⟩) 1 1) [List.replicate blk 0] :=
    WR.single hrow (fun s hs' => by
      rcases hs' with hs' | hs'
      · exact ⟨hs'.1, by simp; omega⟩
      · exact ⟨by omega, by simp; omega⟩) (fun s hs' => by
      rcases hs' with hs' | hs'
      · omega
      · exact hs'.2) ⟨by omega, by simp⟩
  have s2 : (u1.alloc (.cells #[.slice (some ⟨u.heap.size, 0, none⟩) blk blk] 50)).heap.size = u.heap.size + 2 := by simp; omega
  rw [s1] at hW2
  generalize u1.alloc (.cells #[.slice (some ⟨u.heap.size, 0, none⟩) blk blk] 50) = u2 at *
  have b3 : Below u2.heap.size u2 U := by rw [hU]; exact ((Below.refl u2.heap.size u2).alloc (Nat.le_refl _) _).drew
  have hnew : U.cell? ⟨u.heap.size + 2, 0, none⟩ = some (.slice (some ⟨u.heap.size + 1, 0, none⟩) 1 1) := by
    rw [hU, ← s2]
    exact (World.rowIs_alloc u2 #[.slice (some ⟨u.heap.size + 1, 0, none⟩) 1 1] 80 (fun _ => .slice (some ⟨u.heap.size + 1, 0, none⟩) 1 1) (fun j hj => by simp at hj; subst hj; rfl)).cell (i := 0) (by simp)
  have s3 : U.heap.size = u.heap.size + 3 := by rw [hU]; show (u2.alloc _).heap.size = _; simp; omega
  have bU : Below u.heap.size u U := (b1.trans (b2.mono (by omega))).trans (b3.mono (by omega))
  have hownU : U.ownsRow w.heap.size 80 1 v k ((List.range k).map (fun i => .slice (some ⟨q i, 0, none⟩) 1 1)) := ownsRow_block h.own (fun g' cur _ hh => bU.block g' (Array.getElem?_eq_some_iff.1 hh).1)
  obtain ⟨v', w2, hrun, ho, hgr, _⟩ := run_append_own (P := Tryz.prog) U w.heap.size 85 0 80 i0 (.slice none 0 0) 1 24 Tryz.underlying85 hi hz0 hz1 hz2 rfl (by decide) v k _ hownU ⟨u.heap.size + 2, 0, none⟩ 1 1 [.slice (some ⟨u.heap.size + 1, 0, none⟩) 1 1] rfl (by
      intro j x hj
      cases j with
      | zero => simp at hj; subst hj; simpa [Addr.add] using hnew
      | succ j => simp at hj) (by intro x hx; simp at hx; subst hx; rfl) (by unfold maxLen; omega) (by omega) (by omega)
  -- what the append leaves: blocks of another type
  have keep : ∀ (s : Nat) (cur : Array Value) (t : TypeId), t ≠ 80 → U.heap[s]? = some (Obj.cells cur t (0, 0)) → w2.heap[s]? = U.heap[s]? := by
    intro s cur t ht hh
    refine hgr.block s (Array.getElem?_eq_some_iff.1 hh).1 (fun e => ?_)
    rcases hownU.2 with ⟨e1, _⟩ | ⟨g', c, cur', e1, _, hh', _⟩
    · rw [e1] at e; simp [Value.ownBlock] at e
    · rw [e1] at e
      simp [Value.ownBlock] at e
      subst e
      rw [hh] at hh'
      cases hh'
      exact ht rfl
  have devU := h.dev.of_block (bU.block g h.dev.lt)
  have dev2 : w2.rowIs g 87 5 (ncell blk v) := by
    obtain ⟨cur, hh, hrest⟩ := devU
    exact ⟨cur, (keep g cur _ (by decide) hh).trans hh, hrest⟩
  have ne : ∀ (s : Nat) (cur : Array Value) (t : TypeId), t ≠ 87 → w2.heap[s]? = some (Obj.cells cur t (0, 0)) → (w2.setCell ⟨g, 1, none⟩ v').heap[s]? = w2.heap[s]? := fun s cur t ht hh =>
    Below.heap_setCell _ _ _ _ (row_ne dev2 hh (fun e => ht e.symm))
  have hS : ∀ s, (w.heap.size ≤ s ∧ s < U.heap.size) → (w.heap.size ≤ s ∧ s < (w2.setCell ⟨g, 1, none⟩ v').heap.size) := fun s hs' => ⟨hs'.1, by have := hgr.size; simp [World.setCell]; omega⟩
  have moveW : ∀ {x : Value}, WR U (fun s => w.heap.size ≤ s ∧ s < U.heap.size) blk x [List.replicate blk 0] → WR (w2.setCell ⟨g, 1, none⟩ v') (fun s => w.heap.size ≤ s ∧ s < (w2.setCell ⟨g, 1, none⟩ v').heap.size) blk x [List.replicate blk 0] := by
    intro x hx
    refine hx.kept (fun s c _ hh => ?_) (fun s e => ?_) hS
    · have k1 := keep s c 5 (by decide) hh
      exact (ne s c 5 (by decide) (k1.trans hh)).trans k1
    · obtain ⟨_, cur, hh⟩ := hx.own e
      have k1 := keep s cur _ (by decide) hh
      exact (ne s cur _ (by decide) (k1.trans hh)).trans k1
  refine ⟨v', w2, fun ty => hrun, dev2.cell (i := 1) (by omega), dev2.frozen 1, fun i => if i = k then u.heap.size + 1 else q i, ?_⟩
  refine ⟨(dev2.set 1 v').congr (fun j hj => ?_), ?_, fun i hi' => ?_, fun i j hi' hj' e => ?_, h.gB, ?_⟩
  · have : j = 0 ∨ j = 1 ∨ j = 2 ∨ j = 3 ∨ j = 4 := by omega
    rcases this with rfl | rfl | rfl | rfl | rfl <;> simp [ncell]
  · have e1 : (List.range (k + 1)).map (fun i => Value.slice (some ⟨if i = k then u.heap.size + 1 else q i, 0, none⟩) 1 1) = (List.range k).map (fun i => Value.slice (some ⟨q i, 0, none⟩) 1 1) ++ [.slice (some ⟨u.heap.size + 1, 0, none⟩) 1 1] := by
      rw [List.range_succ, List.map_append]
      congr 1
      · refine List.map_congr_left (fun i hi' => ?_)
        have := List.mem_range.1 hi'
        rw [if_neg (by omega)]
      · simp
    rw [e1]
    refine ownsRow_block ho (fun g' cur _ hh => ne g' cur _ (by decide) hh)
  · by_cases e : i = k
    · simp only [if_pos e]
      exact moveW (hW2.kept (fun s c _ hh => b3.block s (Array.getElem?_eq_some_iff.1 hh).1) (fun s e' => b3.block s (by obtain ⟨_, cur, hh⟩ := hW2.own e'; exact (Array.getElem?_eq_some_iff.1 hh).1)) (fun s hs' => ⟨hs'.1, by omega⟩))
    · simp only [if_neg e]
      have hx := h.row i (by omega)
      exact moveW (hx.kept (fun s c _ hh => bU.block s (Array.getElem?_eq_some_iff.1 hh).1) (fun s e' => bU.block s (by obtain ⟨_, cur, hh⟩ := hx.own e'; exact (Array.getElem?_eq_some_iff.1 hh).1)) (fun s hs' => ⟨hs'.1, by omega⟩))
  · by_cases e1 : i = k
    · by_cases e2 : j = k
      · omega
      · simp only [if_pos e1, if_neg e2] at e
        have := (h.lt (i := j) (by omega)).2.1
        omega
    · by_cases e2 : j = k
      · simp only [if_neg e1, if_pos e2] at e
        have := (h.lt (i := i) (by omega)).2.1
        omega
      · simp only [if_neg e1, if_neg e2] at e
        exact h.inj i j (by omega) (by omega) e
  · refine Below.setCell ?_ h.gB _
    exact (h.bel.trans (bU.mono hs)).grown hgr (by omega) (fun s e => (hownU.lt s e).1)

theorem RNI.done {w : World} {g blk n : Nat} {u : World} {v : Value} {q : Nat → Nat} (h : RNI w g blk n u v q) (h1 : 1 ≤ n) (h2 : n ≤ 4096) (h3 : 1 ≤ blk) (h4 : blk ≤ 4096) : Rv u (fun k => w.heap.size ≤ k ∧ k < u.heap.size) g (Dev.new blk n) := by
  rcases h.own.2 with ⟨_, e0⟩ | ⟨hh, hc, cur, rfl, hb, hcur, hn, hm, hsz, ht⟩
  · omega
  · rw [Nat.mul_one] at ht hsz
    have hcell : ∀ i, i < n → cur[i]? = some (.slice (some ⟨q i, 0, none⟩) 1 1) := by
      intro i hi
      have : (cur.toList.take n)[i]? = some (.slice (some ⟨q i, 0, none⟩) 1 1) := by
        rw [ht, List.getElem?_map, List.getElem?_range hi]; rfl
      rw [List.getElem?_take_of_lt hi] at this
      simpa using this
    refine ⟨⟨hh, hc, fun i => cur[i]?.getD (.slice none 0 0)⟩, h.dev.congr (fun j hj => ?_), ⟨cur, hcur, hsz, fun i hi => ?_⟩, ⟨hn, hm⟩, ⟨h.gB, h.dev.lt⟩, ⟨hb, (Array.getElem?_eq_some_iff.1 hcur).1⟩, fun i hi => ?_, fun i j k hi hj e1 e2 => ?_, fun k hk => hk.2, ⟨h1, h2, h3, h4, fun i hi => by simp [Dev.new], by simp [Dev.new], by simp [Dev.new]⟩⟩
    · have : j = 0 ∨ j = 1 ∨ j = 2 ∨ j = 3 ∨ j = 4 := by omega
      rcases this with rfl | rfl | rfl | rfl | rfl <;> rfl
    · have hi2 : i < cur.size := by rw [hsz]; exact hi
      show cur[i]? = some (cur[i]?.getD _)
      rw [Array.getElem?_eq_getElem hi2]
      rfl
    · show WR u _ blk (cur[i]?.getD _) _
      rw [hcell i hi]
      exact h.row i hi
    · have e1' : (cur[i]?.getD (.slice none 0 0)).ownBlock = some k := e1
      have e2' : (cur[j]?.getD (.slice none 0 0)).ownBlock = some k := e2
      rw [hcell i hi] at e1'
      rw [hcell j hj] at e2'
      simp [Value.ownBlock] at e1' e2'
      exact h.inj i j hi hj (by omega)

set_option maxRecDepth 100000 in
theorem rnew_bad (b bl : Int) (w : World) (h : newE b bl ≠ 0) :
    Calls Tryz.prog 12 #[.int .i64 b, .int .i64 bl] w fun e w' => e = .returned (.tuple #[.pointer none, .int .i64 (newE b bl)]) ∧ w = w' := by
  have K := hide (size_any b w)
  generalize hq : newE b bl = q at *
  have HQ := hide hq
  clear hq
  by_cases hs : isSize b
  · have K1 : Hid (Calls Tryz.prog 48 #[.int .i64 b] w fun r w' => r = .returned (.bool true) ∧ w = w') := (unhide K).mono (fun r w' x => by
      rcases x.1 with ⟨e, _⟩ | ⟨_, n⟩
      · exact ⟨e, x.2⟩
      · exact absurd hs n)
    by_cases hr : bl < 1 ∨ 4096 < bl
    · have hq1 : q = 1 := by
        rw [← unhide HQ]
        unfold newE
        rw [if_pos (badB_iff.2 (.inr (.inl hr)))]
      subst hq1
      rcases hr with hr | hr
      · clear K HQ h hs
        go_enter Tryz.func12, Tryz.ntmps12
        go_wp2_with fail
        go_at_call 48
        refine (unhide K1).mono ?_
        rintro e w' ⟨rfl, rfl⟩
        clear K1
        go_wp2
        go_ret2
        exact ⟨rfl, rfl⟩
      · have hr0 : ¬ bl < 1 := by omega
        clear K HQ h hs
        go_enter Tryz.func12, Tryz.ntmps12
        go_wp2_with fail
        go_at_call 48
        refine (unhide K1).mono ?_
        rintro e w' ⟨rfl, rfl⟩
        clear K1
        go_wp2
        go_ret2
        exact ⟨rfl, rfl⟩
    · have nb : ¬ badB b bl 2 4 = true := fun x => by
        have := badB_iff.1 x
        unfold badArg at this
        rcases this with x | x | x | x
        · exact x hs
        · exact hr x
        · omega
        · omega
      have hl : 1048576 < b * bl := by
        by_cases hl : 1048576 < b * bl
        · exact hl
        · exact absurd (by rw [← unhide HQ]; unfold newE; rw [if_neg nb, if_neg hl]) h
      have hq1 : q = 5 := by rw [← unhide HQ]; unfold newE; rw [if_neg nb, if_pos hl]
      subst hq1
      have hr0 : ¬ bl < 1 := fun x => hr (.inl x)
      have hr1 : ¬ 4096 < bl := fun x => hr (.inr x)
      have hw : wrap64 (b * bl) = b * bl := by
        have h1 : 0 < b ∧ b ≤ 4096 := by unfold isSize at hs; omega
        have h2 : b * bl ≤ 4096 * bl := Int.mul_le_mul_of_nonneg_right h1.2 (by omega)
        have h3 : 0 ≤ b * bl := Int.mul_nonneg (by omega) (by omega)
        unfold wrap64
        omega
      generalize hm : b * bl = mm at *
      clear K HQ h hs hr nb
      go_enter Tryz.func12, Tryz.ntmps12
      go_wp2_with fail
      go_at_call 48
      refine (unhide K1).mono ?_
      rintro e w' ⟨rfl, rfl⟩
      clear K1
      go_wp2
      go_ret2
      exact ⟨rfl, rfl⟩
  · have K1 : Hid (Calls Tryz.prog 48 #[.int .i64 b] w fun r w' => r = .returned (.bool false) ∧ w = w') := (unhide K).mono (fun r w' x => by
      rcases x.1 with ⟨_, e⟩ | ⟨e, _⟩
      · exact absurd e hs
      · exact ⟨e, x.2⟩)
    have hq1 : q = 1 := by
      rw [← unhide HQ]
      unfold newE
      rw [if_pos (badB_iff.2 (.inl hs))]
    subst hq1
    clear K HQ h hs
    go_enter Tryz.func12, Tryz.ntmps12
    go_wp2_with fail
    go_at_call 48
    refine (unhide K1).mono ?_
    rintro e w' ⟨rfl, rfl⟩
    clear K1
    go_wp2
    go_ret2
    exact ⟨rfl, rfl⟩

set_option maxRecDepth 100000 in
set_option maxHeartbeats 2000000 in
theorem rnew_ok (blk n : Nat) (w : World) (h : newE blk n = 0) :
    Calls Tryz.prog 12 #[.int .i64 blk, .int .i64 n] w fun e w' => ∃ g S, e = .returned (.tuple #[.pointer (some ⟨g, 0, none⟩), .int .i64 0]) ∧ Rv w' S g (Dev.new blk n) ∧ (∀ k, S k → w.heap.size ≤ k) ∧ Below w.heap.size w w' := by
  obtain ⟨_, _, hsz, hn1, hn2, hmu⟩ := newE_ok h
  have K1 : Hid (Calls Tryz.prog 48 #[.int .i64 blk] w fun r w' => r = .returned (.bool true) ∧ w = w') := (size_any blk w).mono (fun r w' x => by
    rcases x.1 with ⟨e, _⟩ | ⟨_, nn⟩
    · exact ⟨e, x.2⟩
    · exact absurd hsz nn)
  have hb12 : 1 ≤ blk ∧ blk ≤ 4096 := by unfold isSize at hsz; omega
  have hn12 : 1 ≤ n ∧ n ≤ 4096 := by omega
  have hw : wrap64 ((blk : Int) * (n : Int)) = (blk : Int) * (n : Int) := by
    have h3 : 0 ≤ (blk : Int) * (n : Int) := Int.mul_nonneg (by omega) (by omega)
    unfold wrap64
    omega
  have hrow := run_make_row' (P := Tryz.prog) 50 5 (.int .u8 0) 1 Tryz.underlying50 info5 rfl .i64 .i64 blk (by omega) (by omega)
  have I0 : Hid (∃ q, RNI w w.heap.size blk 0 (w.alloc (.cells #[.int .i64 blk, .slice none 0 0, .int .i64 (-1), .bool false, .int .i64 0] 87)) (.slice none 0 0) q) := by
    refine ⟨fun _ => 0, ?_, World.ownsRow_nil _ _ _ _, fun i hi => by omega, fun i j hi => by omega, Nat.le_refl _, (Below.refl _ _).alloc (Nat.le_refl _) _⟩
    exact World.rowIs_alloc w #[.int .i64 blk, .slice none 0 0, .int .i64 (-1), .bool false, .int .i64 0] 87 (ncell blk (.slice none 0 0)) (fun j hj => by
      have : j = 0 ∨ j = 1 ∨ j = 2 ∨ j = 3 ∨ j = 4 := by simp at hj; omega
      rcases this with rfl | rfl | rfl | rfl | rfl <;> rfl)
  have KS : Hid (∀ u v q g k, RNI w g blk k u v q → k < n → ∃ v' w2, (∀ ty, (Builtin.append_ #[85, 85] ty #[v, .slice (some ⟨u.heap.size + 2, 0, none⟩) 1 1]).run Tryz.prog (((u.alloc (.cells (madeCells #[.int .u8 0] blk) 5)).alloc (.cells #[.slice (some ⟨u.heap.size, 0, none⟩) blk blk] 50)).alloc (.cells #[.slice (some ⟨u.heap.size + 1, 0, none⟩) 1 1] 80)).drew = .ok v' w2) ∧ w2.cell? ⟨g, 1, none⟩ = some v ∧ w2.frozen? ⟨g, 1, none⟩ = false ∧ Hid (∃ q', RNI w g blk (k + 1) (w2.setCell ⟨g, 1, none⟩ v') v' q') ∧ (∃ a c, v' = .slice a (k + 1) c)) := by
    intro u v q g k H hk
    obtain ⟨v', w2, r1, r2, r3, q', r4⟩ := H.step hb12.1 hb12.2 (by omega) _ rfl
    exact ⟨v', w2, r1, r2, r3, ⟨q', r4⟩, r4.shape⟩
  have KD : Hid (∀ u v q g, RNI w g blk n u v q → ∃ S, Rv u S g (Dev.new blk n) ∧ (∀ k, S k → w.heap.size ≤ k) ∧ Below w.heap.size w u) := fun u v q g H => ⟨_, H.done hn12.1 hn12.2 hb12.1 hb12.2, fun k hk => hk.1, H.bel⟩
  have m1 : ¬ (n : Int) < 1 := by omega
  have m2 : ¬ 4096 < (n : Int) := by omega
  have m3 : ¬ 1048576 < (blk : Int) * (n : Int) := by omega
  clear h hsz hn1 hn2 hmu
  go_enter Tryz.func12, Tryz.ntmps12
  go_wp2_with fail
  go_at_call 48
  refine (unhide K1).mono ?_
  rintro e w' ⟨rfl, rfl⟩
  clear K1
  go_upto_region 6 with fail
  change Code.wp _ _ _ _ (w.alloc (.cells #[.int .i64 blk, .slice none 0 0, .int .i64 (-1), .bool false, .int .i64 0] 87))
  generalize w.alloc (.cells #[.int .i64 blk, .slice none 0 0, .int .i64 (-1), .bool false, .int .i64 0] 87) = w1 at *
  clear m1 m2 m3 hw
  go_upto_region 7 with fail
  go_loopw [7] (fun i wr => ∃ k : Nat, k ≤ n ∧ i = .int .i64 (k : Int) ∧ Hid (∃ v q, RNI w w.heap.size blk k wr v q)) (fun i _ => n - (intOf i).toNat)
  case atStart => exact ⟨0, Nat.zero_le _, rfl, by obtain ⟨q, h⟩ := unhide I0; exact ⟨_, q, h⟩⟩
  case round =>
    obtain ⟨k, hk, rfl, hI⟩ := hrel
    clear I0
    obtain ⟨v, q, hR⟩ := unhide hI
    by_cases hlt : k < n
    · obtain ⟨v', w2, R', e1, e2, F, a2, c2, rfl⟩ := unhide KS wr v q w.heap.size k hR hlt
      obtain ⟨av, cv, rfl⟩ := hR.shape
      have R := hide R'
      have c0 : wr.drew.cell? ⟨w.heap.size, 1, none⟩ = some (.slice av k cv) := hR.dev.cell (i := 1) (by omega)
      have c1 : ∀ o, (wr.alloc o).cell? ⟨w.heap.size, 1, none⟩ = some (.slice av k cv) := fun o => (hR.dev.alloc o).cell (i := 1) (by omega)
      have c2' : ∀ o o2, ((wr.alloc o).alloc o2).cell? ⟨w.heap.size, 1, none⟩ = some (.slice av k cv) := fun o o2 => ((hR.dev.alloc o).alloc o2).cell (i := 1) (by omega)
      have c3 : ∀ o o2 o3, (((wr.alloc o).alloc o2).alloc o3).cell? ⟨w.heap.size, 1, none⟩ = some (.slice av k cv) := fun o o2 o3 => (((hR.dev.alloc o).alloc o2).alloc o3).cell (i := 1) (by omega)
      have F2 : Hid (∃ v q, RNI w w.heap.size blk (k + 1) (w2.setCell ⟨w.heap.size, 1, none⟩ (.slice a2 (k + 1) c2)) v q) := by
        obtain ⟨q', h⟩ := unhide F
        exact ⟨_, q', h⟩
      clear KS KD hI hR R' F
      generalize w.heap.size = g at *
      go_upto_region 9 with fail
      go_region_law (refine step_append_run (by rfl) _ _ _ (by rfl) _ _ _ (by rfl) (by rfl) (unhide R) ?_; clear R)
      all_goals
        go_wp2_with fail
        exact ⟨⟨k + 1, by omega, by go_num, F2⟩, by simp [intOf]; omega⟩
    · have hkn : k = n := by omega
      rw [hkn] at hR
      obtain ⟨S, x1, x2, x3⟩ := unhide KD wr v q w.heap.size hR
      have F := hide x1
      have F2 := hide x2
      have F3 := hide x3
      have nk : ¬ (k : Int) < (n : Int) := by omega
      clear KS KD x1 x2 x3 hI hR hkn
      go_wp2_with fail
      go_ret2
      first | exact ⟨w.heap.size, S, rfl, unhide F, unhide F2, unhide F3⟩ | exact ⟨w.heap.size, rfl, S, unhide F, unhide F2, unhide F3⟩

end Go.Proofs.YtadnlljknocbbaaGreatDoor

/- The contracts of the document's device: Write. -/
namespace Go.Proofs.YtadnlljknocbbaaGreatDoor
open Go.RowKit Go.Shelf
set_option linter.unusedVariables false

set_option maxRecDepth 100000 in
theorem rwrite_bad (g : Nat) (b : Int) (a : Option Addr) (len cap : Nat) (S : Nat → Prop) (D : Dev) (w : World) (hD : Rv w S g D) (hr : refE D b len ≠ 0) :
    Calls Tryz.prog 51 #[.pointer (some ⟨g, 0, none⟩), .int .i64 b, .slice a len cap] w fun e w' => e = .returned (.int .i64 (refE D b len)) ∧ w = w' := by
  obtain ⟨m, hD⟩ := hD
  obtain ⟨c0, c1, c2, c3, c4⟩ := hD.cells
  generalize hq : refE D b len = q at *
  have hQ := hide hq
  clear hq
  unfold refE at hQ
  by_cases hb : 0 ≤ b ∧ b < D.n
  · have hl : ¬ len = D.blk := fun e => hr (by rw [← unhide hQ, if_neg (fun h => h hb), if_neg (fun h => h e)])
    have hq1 : q = 1 := by rw [← unhide hQ, if_neg (fun h => h hb), if_pos hl]
    have hz : ((len : Int) != (D.blk : Int)) = true := by simp; omega
    subst hq1
    obtain ⟨hb1, hb2⟩ := hb
    have n1 : ¬ b < 0 := by omega
    have n2 : ¬ (D.n : Int) ≤ b := by omega
    generalize D.blk = bb at *
    generalize D.n = nn at *
    clear hD hr hQ hl
    go_enter Tryz.func51, Tryz.ntmps51
    go_wp2
    go_ret
    exact ⟨rfl, rfl⟩
  · have hq1 : q = 2 := by rw [← unhide hQ, if_pos hb]
    subst hq1
    generalize D.blk = bb at *
    generalize D.n = nn at *
    clear hD hr hQ
    by_cases n1 : b < 0
    · clear hb
      go_enter Tryz.func51, Tryz.ntmps51
      go_wp2
      go_ret
      exact ⟨rfl, rfl⟩
    · have n2 : (nn : Int) ≤ b := by omega
      clear hb
      go_enter Tryz.func51, Tryz.ntmps51
      go_wp2
      go_ret
      exact ⟨rfl, rfl⟩

set_option maxRecDepth 100000 in
theorem rwrite_dies (g i : Nat) (a : Option Addr) (cap : Nat) (S : Nat → Prop) (D : Dev) (w : World) (hD : Rv w S g D) (hi : i < D.n) (hb : D.burnt) :
    Calls Tryz.prog 51 #[.pointer (some ⟨g, 0, none⟩), .int .i64 i, .slice a D.blk cap] w fun e w' => e = .returned (.int .i64 7) ∧ Rv w' S g D.die ∧ Nx S w S w' := by
  have K := hide (rburn_dies g S D w hD hb)
  obtain ⟨m, hD⟩ := hD
  obtain ⟨c0, c1, c2, c3, c4⟩ := hD.cells
  have hin : ¬ (D.n : Int) ≤ (i : Int) := by omega
  clear hD hb
  generalize D.blk = bb at *
  generalize D.n = nn at *
  go_enter Tryz.func51, Tryz.ntmps51
  go_wp2_with fail
  go_at_call 93
  refine (unhide K).mono ?_
  rintro e w' ⟨rfl, h1⟩
  have F := hide h1
  clear K h1
  go_wp2
  go_ret
  exact ⟨rfl, unhide F⟩

/-- A list of rows is appended to: the new list in memory. -/
theorem RvM.append {w w1 : World} {S : Nat → Prop} {g : Nat} {D : Dev} {m : RMem} (h : RvM w S g D m) {i : Nat} (hi : i < D.n) (hy : (D.Y i).length < 400) (hb : Below w.heap.size w w1) {r : Nat × Nat} {zs : List Int} (hr : RowAt w1 (exS S w w1) D.blk r zs) :
    ∃ a' c' w2, (∀ ty, (Builtin.append_ #[80, 80] ty #[m.V i, .slice (some ⟨w1.heap.size, 0, none⟩) 1 1]).run Tryz.prog (w1.alloc (.cells #[.slice (some ⟨r.1, 0, none⟩) D.blk r.2] 50)) = .ok (.slice a' ((D.Y i).length + 2) c') w2) ∧
      w2.heap[g]? = w1.heap[g]? ∧ w2.heap[m.h]? = w1.heap[m.h]? ∧
      Hid (∃ S', Rv (w2.setCell ⟨m.h, i, none⟩ (.slice a' ((D.Y i).length + 2) c')) S' g (D.add i zs) ∧ Nx S w S' (w2.setCell ⟨m.h, i, none⟩ (.slice a' ((D.Y i).length + 2) c'))) := by
  have hb1 := (Below.refl w1.heap.size w1).alloc (Nat.le_refl _) (.cells #[.slice (some ⟨r.1, 0, none⟩) D.blk r.2] 50)
  have hb2 : Below w.heap.size w (w1.alloc (.cells #[.slice (some ⟨r.1, 0, none⟩) D.blk r.2] 50)) := hb.trans (hb1.mono hb.size)
  have hnew : (w1.alloc (.cells #[.slice (some ⟨r.1, 0, none⟩) D.blk r.2] 50)).cell? ⟨w1.heap.size, 0, none⟩ = some (.slice (some ⟨r.1, 0, none⟩) D.blk r.2) :=
    (World.rowIs_alloc w1 #[.slice (some ⟨r.1, 0, none⟩) D.blk r.2] 50 (fun _ => .slice (some ⟨r.1, 0, none⟩) D.blk r.2) (fun j hj => by simp at hj; subst hj; rfl)).cell (i := 0) (by simp)
  have hg1 := h.grow hb2
  have hrow : RowAt (w1.alloc (.cells #[.slice (some ⟨r.1, 0, none⟩) D.blk r.2] 50)) (exS S w (w1.alloc (.cells #[.slice (some ⟨r.1, 0, none⟩) D.blk r.2] 50))) D.blk r zs := hr.kept (fun k c hs hc => hb1.block k (Array.getElem?_eq_some_iff.1 hc).1) (fun k hk => by
    rcases hk with hk | hk
    · exact .inl hk
    · exact .inr ⟨hk.1, Nat.lt_of_lt_of_le hk.2 hb1.size⟩)
  have hlt1 : g < w1.heap.size ∧ m.h < w1.heap.size := ⟨Nat.lt_of_lt_of_le h.dev.lt hb.size, Nat.lt_of_lt_of_le h.lis.lt hb.size⟩
  have hgb := hb1.block g hlt1.1
  have hhb := hb1.block m.h hlt1.2
  generalize w1.alloc (.cells #[.slice (some ⟨r.1, 0, none⟩) D.blk r.2] 50) = u at *
  obtain ⟨R, hR, hRa, hRo⟩ := hg1.row i hi
  obtain ⟨v', w2, hrn, ho, hgr, hcase⟩ := run_append_vals 80 50 (.slice none 0 0) 24 Tryz.underlying80 infoS rfl hR ⟨w1.heap.size, 0, none⟩ 1 1 [.slice (some ⟨r.1, 0, none⟩) D.blk r.2] rfl (by omega) (by
      intro j x hj
      cases j with
      | zero => simp at hj; subst hj; simpa [Addr.add] using hnew
      | succ j => simp at hj) (by intro x hx; simp at hx; subst hx; rfl) (by unfold maxLen; simp; omega) (by simp; omega)
  simp only [List.length_cons] at ho
  obtain ⟨a', c', rfl⟩ : ∃ a' c', v' = .slice a' ((D.Y i).length + 2) c' := by
    rcases ho.2 with ⟨_, h0⟩ | ⟨gg, cc, _, rfl, _⟩
    · omega
    · exact ⟨_, _, rfl⟩
  have hown : ∀ k, (m.V i).ownBlock = some k → exS S w u k ∧ ∃ cur, u.heap[k]? = some (Obj.cells cur 50 (0, 0)) := fun k e => (hg1.row i hi).own e
  have k5 : ∀ k c, exS S w u k → u.heap[k]? = some (Obj.cells c 5 (0, 0)) → w2.heap[k]? = u.heap[k]? := by
    intro k c hk hc
    refine hgr.block k (Array.getElem?_eq_some_iff.1 hc).1 (fun e => ?_)
    obtain ⟨_, cur, hh⟩ := hown k e.symm
    rw [hc] at hh
    cases hh
  have kh : w2.heap[m.h]? = u.heap[m.h]? := by
    refine hgr.block m.h hg1.lis.lt (fun e => ?_)
    obtain ⟨_, cur, hh⟩ := hown _ e.symm
    exact row_ne hg1.lis hh (by decide) rfl
  have kg : w2.heap[g]? = u.heap[g]? := by
    refine hgr.block g hg1.dev.lt (fun e => ?_)
    obtain ⟨_, cur, hh⟩ := hown _ e.symm
    exact row_ne hg1.dev hh (by decide) rfl
  have hsub : ∀ k, exS S w u k → exS S w w2 k := fun k hk => by
    rcases hk with hk | hk
    · exact .inl hk
    · exact .inr ⟨hk.1, Nat.lt_of_lt_of_le hk.2 hgr.size⟩
  have hlt : ∀ k, exS S w w2 k → k < w2.heap.size := fun k hk => by
    rcases hk with hk | hk
    · exact Nat.lt_of_lt_of_le (hg1.lt k (.inl hk)) hgr.size
    · exact hk.2
  have hown' : ∀ k, (Value.slice a' ((D.Y i).length + 2) c').ownBlock = some k → exS S w w2 k := by
    intro k e
    rcases hcase with ⟨e1, _⟩ | ⟨k', e1, e2, _⟩
    · rw [e1] at e
      exact hsub k (hown k e).1
    · rw [e1] at e
      cases e
      refine .inr ⟨Nat.le_trans hb2.size e2, ?_⟩
      rcases ho.2 with ⟨_, h0⟩ | ⟨gg, cc, cur, e3, _, hh, _⟩
      · omega
      · rw [e3] at e1
        simp [Value.ownBlock] at e1
        subst e1
        exact (Array.getElem?_eq_some_iff.1 hh).1
  have hoth : ∀ j k, j < D.n → j ≠ i → (m.V j).ownBlock = some k → w2.heap[k]? = u.heap[k]? ∧ (Value.slice a' ((D.Y i).length + 2) c').ownBlock ≠ some k := by
    intro j k hj hji e
    have hku : k < u.heap.size := hg1.lt k ((hg1.row j hj).own e).1
    have hne : (m.V i).ownBlock ≠ some k := fun e2 => hji (hg1.one j i k hj hi e e2)
    refine ⟨hgr.block k hku (fun e2 => hne e2.symm), ?_⟩
    rcases hcase with ⟨e1, _⟩ | ⟨k', e1, e2, _⟩
    · rw [e1]; exact hne
    · rw [e1]; intro e3; cases e3; omega
  have hWR : WR w2 (exS S w w2) D.blk (.slice a' ((D.Y i).length + 2) c') (D.X i :: (D.Y i ++ [zs])) := by
    have hRl : R.length = (D.Y i).length + 1 := by simpa using hR.1
    refine ⟨R ++ [r], ?_, ?_, hown'⟩
    · rw [List.map_append]
      simpa using ho
    · intro j hj
      simp only [List.length_cons, List.length_append, List.length_nil] at hj
      rw [← List.cons_append]
      by_cases hj2 : j < (D.Y i).length + 1
      · rw [List.getElem?_append_left (by omega), List.getElem?_append_left (by simpa using hj2)]
        exact (hRa j (by simpa using hj2)).kept k5 hsub
      · obtain rfl : j = (D.Y i).length + 1 := by omega
        rw [List.getElem?_append_right (by omega), List.getElem?_append_right (by simp), hRl]
        simpa using hrow.kept k5 hsub
  refine ⟨a', c', w2, hrn, kg.trans hgb, kh.trans hhb, ?_⟩
  -- the device, where the list of block i is the new one already
  have dev2 := hg1.dev.of_block kg
  have lis2 := hg1.lis.of_block kh
  have ne : ∀ (k' : Nat) (c : Array Value) (t : TypeId), t ≠ 80 → w2.heap[k']? = some (Obj.cells c t (0, 0)) → (w2.setCell ⟨m.h, i, none⟩ (.slice a' ((D.Y i).length + 2) c')).heap[k']? = w2.heap[k']? := fun k' c t ht hh =>
    Below.heap_setCell _ _ _ _ (row_ne lis2 hh (fun e => ht e.symm))
  have kv : ∀ {v' : Value} {Z' : List (List Int)}, WR w2 (exS S w w2) D.blk v' Z' → WR (w2.setCell ⟨m.h, i, none⟩ (.slice a' ((D.Y i).length + 2) c')) (exS S w w2) D.blk v' Z' := by
    intro v' Z' hw
    refine hw.kept (fun k' c _ hh => ne k' c 5 (by decide) hh) (fun k' e => ?_) (fun _ h => h)
    obtain ⟨_, cur, hh⟩ := hw.own e
    exact ne _ _ _ (by decide) hh
  refine ⟨exS S w w2, ⟨{ m with V := fun j => if j = i then .slice a' ((D.Y i).length + 2) c' else m.V j }, ?_⟩, ?_⟩
  · rw [← put_add]
    refine ⟨(dev2.setOther (rows_ne lis2 dev2 (by decide)) _).congr (fun j hj => rfl), lis2.set i _, h.hn, hsub _ hg1.sg, hsub _ hg1.sh, fun j hj => ?_, fun x y k hx hy' ea eb => ?_, fun k hk => by simpa [World.setCell] using hlt k hk, ⟨h.ok.n1, h.ok.n2, h.ok.b1, h.ok.b2, fun j hj => ?_, h.ok.f1, h.ok.f2⟩⟩
    · simp only [Dev.put]
      by_cases e : j = i
      · subst e
        simp only [if_true]
        exact kv hWR
      · simp only [if_neg e]
        exact kv ((hg1.row j hj).kept k5 (fun k ek => (hoth j k hj e ek).1) hsub)
    · by_cases e1 : x = i
      · by_cases e2 : y = i
        · omega
        · simp only [e1, if_true] at ea
          simp only [if_neg e2] at eb
          exact absurd ea (hoth y k hy' e2 eb).2
      · by_cases e2 : y = i
        · simp only [e2, if_true] at eb
          simp only [if_neg e1] at ea
          exact absurd eb (hoth x k hx e1 ea).2
        · simp only [if_neg e1] at ea
          simp only [if_neg e2] at eb
          exact h.one x y k hx hy' ea eb
    · simp only [Dev.put]
      by_cases e : j = i
      · simp only [e, if_true, List.length_append, List.length_cons, List.length_nil]; omega
      · simp only [if_neg e]; exact h.ok.y j hj
  · refine ⟨(⟨hgr.os.trans hb2.os, hgr.tape.trans hb2.tape, hgr.output.trans hb2.output, Nat.le_trans hb2.size hgr.size, fun k hk hn => ?_⟩ : Fr S w w2).setCell h.sh _, fun k hk hS => ?_⟩
    · refine (hgr.block k (Nat.lt_of_lt_of_le hk hb2.size) (fun e => hn ?_)).trans (hb2.block k hk)
      rcases (hown k e.symm).1 with hs | hs
      · exact hs
      · omega
    · rcases hS with hS | hS
      · exact hS
      · omega

end Go.Proofs.YtadnlljknocbbaaGreatDoor

/- The contract of the document's Write, where there is room. -/
namespace Go.Proofs.YtadnlljknocbbaaGreatDoor
open Go.RowKit Go.Shelf
set_option linter.unusedVariables false

/-- What the region that lets a write wait wants: the device in w. -/
structure WK (g i nn lenY bb : Nat) (a : Option Addr) (cap : Nat) (P : World → Prop) (w : World) (hh hc kk cl k c' : Nat) (w2 : World) (a2 : Option Addr) (c2 : Nat) (w3 : World) : Prop where
  x1 : w.cell? ⟨g, 1, none⟩ = some (.slice (some ⟨hh, 0, none⟩) nn hc)
  x2 : ∀ o, (w.alloc o).cell? ⟨g, 1, none⟩ = some (.slice (some ⟨hh, 0, none⟩) nn hc)
  x3 : w2.cell? ⟨g, 1, none⟩ = some (.slice (some ⟨hh, 0, none⟩) nn hc)
  x4 : ∀ o, (w2.alloc o).cell? ⟨g, 1, none⟩ = some (.slice (some ⟨hh, 0, none⟩) nn hc)
  x5 : w3.cell? ⟨g, 1, none⟩ = some (.slice (some ⟨hh, 0, none⟩) nn hc)
  y1 : w.cell? ⟨hh, i, none⟩ = some (.slice (some ⟨kk, 0, none⟩) (lenY + 1) cl)
  y2 : ∀ o, (w.alloc o).cell? ⟨hh, i, none⟩ = some (.slice (some ⟨kk, 0, none⟩) (lenY + 1) cl)
  y3 : w2.cell? ⟨hh, i, none⟩ = some (.slice (some ⟨kk, 0, none⟩) (lenY + 1) cl)
  y4 : ∀ o, (w2.alloc o).cell? ⟨hh, i, none⟩ = some (.slice (some ⟨kk, 0, none⟩) (lenY + 1) cl)
  y5 : w3.cell? ⟨hh, i, none⟩ = some (.slice (some ⟨kk, 0, none⟩) (lenY + 1) cl)
  y6 : w3.frozen? ⟨hh, i, none⟩ = false
  r1 : ∀ ty, (Builtin.append_ #[50, 50] ty #[.slice (some ⟨w.heap.size, 0, none⟩) 0 0, .slice a bb cap]).run Tryz.prog (w.alloc (.cells #[] 5)).drew = .ok (.slice (some ⟨k, 0, none⟩) bb c') w2
  r2 : ∀ ty, (Builtin.append_ #[80, 80] ty #[.slice (some ⟨kk, 0, none⟩) (lenY + 1) cl, .slice (some ⟨w2.heap.size, 0, none⟩) 1 1]).run Tryz.prog (w2.alloc (.cells #[.slice (some ⟨k, 0, none⟩) bb c'] 50)) = .ok (.slice a2 (lenY + 2) c2) w3
  fin : P (w3.setCell ⟨hh, i, none⟩ (.slice a2 (lenY + 2) c2))

theorem Rv.wk {w : World} {S : Nat → Prop} {g : Nat} {D : Dev} (h : Rv w S g D) {i : Nat} (hi : i < D.n) (hy : (D.Y i).length < 400) {a : Option Addr} {cap : Nat} {zs : List Int} (hr : Row w.heap.size w a D.blk cap zs) :
    ∃ hh hc kk cl k c' w2 a2 c2 w3, WK g i D.n (D.Y i).length D.blk a cap (fun wx => ∃ S', Rv wx S' g (D.add i zs) ∧ Nx S w S' wx) w hh hc kk cl k c' w2 a2 c2 w3 := by
  obtain ⟨m, h⟩ := h
  obtain ⟨a', c', w2, R1, hO, hB⟩ := app_newd (c := cap) hr.has (by have := h.ok.b2; omega)
  obtain ⟨k, rfl, hk1, hk2, hrow⟩ := own_rowAt (S := S) hO h.ok.b1 hr.2.2.2.1
  obtain ⟨a2, c2, w3, R2, kg, kh, F⟩ := h.append hi hy hB hrow
  obtain ⟨kk, cl, e1, _, _, _, l1, l2, _⟩ := h.list hi
  have g2 := h.grow hB
  obtain ⟨kk', cl', e1', _, _, _, l1', l2', _⟩ := g2.list hi
  rw [e1] at e1'
  cases e1'
  rw [e1] at R2
  refine ⟨m.h, m.hc, kk, cl, k, c', w2, a2, c2, w3, ⟨h.cells.2.1, fun o => (h.dev.alloc o).cell (i := 1) (by omega), g2.cells.2.1, fun o => (g2.dev.alloc o).cell (i := 1) (by omega), (g2.dev.of_block kg).cell (i := 1) (by omega), l1, fun o => ?_, l1', fun o => ?_, ?_, (g2.lis.of_block kh).frozen i, R1, R2, F⟩⟩
  · rw [(h.lis.alloc o).cell (by have := h.hn.1; omega), e1]
  · rw [(g2.lis.alloc o).cell (by have := h.hn.1; omega), e1]
  · rw [(g2.lis.of_block kh).cell (by have := h.hn.1; omega), e1]

set_option maxRecDepth 100000 in
set_option maxHeartbeats 8000000 in
theorem rwrite_ok (g i : Nat) (a : Option Addr) (cap : Nat) (zs : List Int) (S : Nat → Prop) (D : Dev) (w : World) (hD : Rv w S g D) (hi : i < D.n) (hb : ¬ D.burnt) (hr : Row w.heap.size w a D.blk cap zs) (ho : Out S D.blk a) (hy : (D.Y i).length < 400) :
    Calls Tryz.prog 51 #[.pointer (some ⟨g, 0, none⟩), .int .i64 i, .slice a D.blk cap] w fun e w' => e = .returned (.int .i64 0) ∧ ∃ S', Rv w' S' g (D.burn.add i zs) ∧ Nx S w S' w' := by
  have K := hide (rburn_burns g S D w hD hb)
  have KW : Hid (∀ w1, Rv w1 S g D.burn → Nx S w S w1 → ∃ hh hc kk cl k c' w2 a2 c2 w3, WK g i D.n (D.Y i).length D.blk a cap (fun wx => ∃ S', Rv wx S' g (D.burn.add i zs) ∧ Nx S w S' wx) w1 hh hc kk cl k c' w2 a2 c2 w3) := by
    intro w1 h hx
    obtain ⟨hh, hc, kk, cl, k, c', w2, a2, c2, w3, W⟩ := h.wk (i := i) hi hy (hr.nx hx ho)
    obtain ⟨S', q1, q2⟩ := W.fin
    exact ⟨hh, hc, kk, cl, k, c', w2, a2, c2, w3, { W with fin := ⟨S', q1, hx.trans q2⟩ }⟩
  obtain ⟨m, hD⟩ := hD
  obtain ⟨c0, c1, c2, c3, c4⟩ := hD.cells
  have hin : ¬ (D.n : Int) ≤ (i : Int) := by omega
  have hin2 : (i : Int) < (D.n : Int) := by omega
  have hz : ((D.blk : Int) != (D.blk : Int)) = false := by simp
  have hl4 : ¬ (400 : Int) < (((D.Y i).length + 1 : Nat) : Int) := by omega
  have hl5 : decide ((400 : Int) < (((D.Y i).length + 1 : Nat) : Int)) = false := decide_eq_false hl4
  clear hD hb hr ho hy
  generalize D.burn.add i zs = D' at *
  generalize D.burn = D1 at *
  generalize (D.Y i).length = ly at *
  generalize D.blk = bb at *
  generalize D.n = nn at *
  go_enter Tryz.func51, Tryz.ntmps51
  go_wp2_with fail
  go_at_call 93
  refine (unhide K).mono ?_
  rintro e w1 ⟨rfl, h1, h2⟩
  obtain ⟨hh, hc, kk, cl, k, c', w2, a2, c2', w3, W⟩ := unhide KW w1 h1 h2
  have x1 := W.x1
  have y1 := W.y1
  have HW := hide W
  clear K KW h1 h2 W c0 c1 c2 c3 c4 hi
  go_upto_region 9 with fail
  have x1' : w1.drew.cell? ⟨g, 1, none⟩ = some (.slice (some ⟨hh, 0, none⟩) nn hc) := x1
  have y1' : w1.drew.cell? ⟨hh, i, none⟩ = some (.slice (some ⟨kk, 0, none⟩) (ly + 1) cl) := y1
  have x2 := (unhide HW).x2
  have x3 := (unhide HW).x3
  have x4 := (unhide HW).x4
  have x5 := (unhide HW).x5
  have y2 := (unhide HW).y2
  have y3 := (unhide HW).y3
  have y4 := (unhide HW).y4
  have y5 := (unhide HW).y5
  have y6 := (unhide HW).y6
  have R1 := hide (unhide HW).r1
  have R2 := hide (unhide HW).r2
  have F := hide (unhide HW).fin
  clear HW x1 y1 hl4 hl5 hin
  go_cut [] (fun wx => Hid (∃ S', Rv wx S' g D' ∧ Nx S w S' wx))
  case first =>
    go_region_law (first
      | (refine step_append_run (by rfl) _ _ _ (by rfl) _ _ _ (by rfl) (by rfl) (unhide R1) ?_; clear R1)
      | (refine step_append_run (by rfl) _ _ _ (by rfl) _ _ _ (by rfl) (by rfl) (unhide R2) ?_; clear R2))
    all_goals
      go_wp2_with fail
      go_meet
      exact F
  case rest =>
    clear R1 R2 F x1' x2 x3 x4 x5 y1' y2 y3 y4 y5 y6
    go_wp2_with fail
    go_ret
    exact ⟨rfl, unhide hcut⟩

end Go.Proofs.YtadnlljknocbbaaGreatDoor

