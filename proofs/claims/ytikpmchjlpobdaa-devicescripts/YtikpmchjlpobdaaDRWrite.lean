/- The contracts of the document's device: Write. -/
import Derived.Test.YtikpmchjlpobdaaDRFlush
namespace Go.Proofs.Ytikpmchjlpobdaa
open Go.RowKit Go.Shelf
set_option linter.unusedVariables false

theorem rwrite_bad (g : Nat) (b : Int) (a : Option Addr) (len cap : Nat) (S : Nat → Prop) (D : Dev) (w : World) (hD : Rv w S g D) (hr : refE D b len ≠ 0) :
    Calls Try.prog 16 #[.pointer (some ⟨g, 0, none⟩), .int .i64 b, .slice a len cap] w fun e w' => e = .returned (.int .i64 (refE D b len)) ∧ w = w' := by
  obtain ⟨m, hD⟩ := hD
  obtain ⟨c0, c1, c2, c3, c4⟩ := hD.cells
  generalize hq : refE D b len = q at *
  have hQ := hide hq
  clear hq
  unfold refE at hQ
  by_cases hb : 0 ≤ b ∧ b < D.n
  · have hl : ¬ len = D.blk := fun e => hr (by rw [← unhide hQ, if_neg (fun h => h hb), if_neg (fun h => h e)])
    have hq1 : q = 1 := by rw [← unhide hQ, if_neg (fun h => h hb), if_pos hl]
    have hz : ((len : Int) != (D.blk : Int)) = true := by simp; omega
    subst hq1
    obtain ⟨hb1, hb2⟩ := hb
    have n1 : ¬ b < 0 := by omega
    have n2 : ¬ (D.n : Int) ≤ b := by omega
    generalize D.blk = bb at *
    generalize D.n = nn at *
    clear hD hr hQ hl
    go_enter Try.func16, Try.ntmps16
    go_wp2
    go_ret
    exact ⟨rfl, rfl⟩
  · have hq1 : q = 2 := by rw [← unhide hQ, if_pos hb]
    subst hq1
    generalize D.blk = bb at *
    generalize D.n = nn at *
    clear hD hr hQ
    by_cases n1 : b < 0
    · clear hb
      go_enter Try.func16, Try.ntmps16
      go_wp2
      go_ret
      exact ⟨rfl, rfl⟩
    · have n2 : (nn : Int) ≤ b := by omega
      clear hb
      go_enter Try.func16, Try.ntmps16
      go_wp2
      go_ret
      exact ⟨rfl, rfl⟩

theorem rwrite_dies (g i : Nat) (a : Option Addr) (cap : Nat) (S : Nat → Prop) (D : Dev) (w : World) (hD : Rv w S g D) (hi : i < D.n) (hb : D.burnt) :
    Calls Try.prog 16 #[.pointer (some ⟨g, 0, none⟩), .int .i64 i, .slice a D.blk cap] w fun e w' => e = .returned (.int .i64 7) ∧ Rv w' S g D.die ∧ Nx S w S w' := by
  have K := hide (rburn_dies g S D w hD hb)
  obtain ⟨m, hD⟩ := hD
  obtain ⟨c0, c1, c2, c3, c4⟩ := hD.cells
  have hin : ¬ (D.n : Int) ≤ (i : Int) := by omega
  clear hD hb
  generalize D.blk = bb at *
  generalize D.n = nn at *
  go_enter Try.func16, Try.ntmps16
  go_wp2_with fail
  go_at_call 49
  refine (unhide K).mono ?_
  rintro e w' ⟨rfl, h1⟩
  have F := hide h1
  clear K h1
  go_wp2
  go_ret
  exact ⟨rfl, unhide F⟩

/-- A list of rows is appended to: the new list in memory. -/
theorem RvM.append {w w1 : World} {S : Nat → Prop} {g : Nat} {D : Dev} {m : RMem} (h : RvM w S g D m) {i : Nat} (hi : i < D.n) (hy : (D.Y i).length < 400) (hb : Below w.heap.size w w1) {r : Nat × Nat} {zs : List Int} (hr : RowAt w1 (exS S w w1) D.blk r zs) :
    ∃ a' c' w2, (∀ ty, (Builtin.append_ #[54, 54] ty #[m.V i, .slice (some ⟨w1.heap.size, 0, none⟩) 1 1]).run Try.prog (w1.alloc (.cells #[.slice (some ⟨r.1, 0, none⟩) D.blk r.2] 31)) = .ok (.slice a' ((D.Y i).length + 2) c') w2) ∧
      w2.heap[g]? = w1.heap[g]? ∧ w2.heap[m.h]? = w1.heap[m.h]? ∧
      Hid (∃ S', Rv (w2.setCell ⟨m.h, i, none⟩ (.slice a' ((D.Y i).length + 2) c')) S' g (D.add i zs) ∧ Nx S w S' (w2.setCell ⟨m.h, i, none⟩ (.slice a' ((D.Y i).length + 2) c'))) := by
  have hb1 := (Below.refl w1.heap.size w1).alloc (Nat.le_refl _) (.cells #[.slice (some ⟨r.1, 0, none⟩) D.blk r.2] 31)
  have hb2 : Below w.heap.size w (w1.alloc (.cells #[.slice (some ⟨r.1, 0, none⟩) D.blk r.2] 31)) := hb.trans (hb1.mono hb.size)
  have hnew : (w1.alloc (.cells #[.slice (some ⟨r.1, 0, none⟩) D.blk r.2] 31)).cell? ⟨w1.heap.size, 0, none⟩ = some (.slice (some ⟨r.1, 0, none⟩) D.blk r.2) :=
    (World.rowIs_alloc w1 #[.slice (some ⟨r.1, 0, none⟩) D.blk r.2] 31 (fun _ => .slice (some ⟨r.1, 0, none⟩) D.blk r.2) (fun j hj => by simp at hj; subst hj; rfl)).cell (i := 0) (by simp)
  have hg1 := h.grow hb2
  have hrow : RowAt (w1.alloc (.cells #[.slice (some ⟨r.1, 0, none⟩) D.blk r.2] 31)) (exS S w (w1.alloc (.cells #[.slice (some ⟨r.1, 0, none⟩) D.blk r.2] 31))) D.blk r zs := hr.kept (fun k c hs hc => hb1.block k (Array.getElem?_eq_some_iff.1 hc).1) (fun k hk => by
    rcases hk with hk | hk
    · exact .inl hk
    · exact .inr ⟨hk.1, Nat.lt_of_lt_of_le hk.2 hb1.size⟩)
  have hlt1 : g < w1.heap.size ∧ m.h < w1.heap.size := ⟨Nat.lt_of_lt_of_le h.dev.lt hb.size, Nat.lt_of_lt_of_le h.lis.lt hb.size⟩
  have hgb := hb1.block g hlt1.1
  have hhb := hb1.block m.h hlt1.2
  generalize w1.alloc (.cells #[.slice (some ⟨r.1, 0, none⟩) D.blk r.2] 31) = u at *
  obtain ⟨R, hR, hRa, hRo⟩ := hg1.row i hi
  obtain ⟨v', w2, hrn, ho, hgr, hcase⟩ := run_append_vals 54 31 (.slice none 0 0) 24 Try.underlying54 infoS rfl hR ⟨w1.heap.size, 0, none⟩ 1 1 [.slice (some ⟨r.1, 0, none⟩) D.blk r.2] rfl (by omega) (by
      intro j x hj
      cases j with
      | zero => simp at hj; subst hj; simpa [Addr.add] using hnew
      | succ j => simp at hj) (by intro x hx; simp at hx; subst hx; rfl) (by unfold maxLen; simp; omega) (by simp; omega)
  simp only [List.length_cons] at ho
  obtain ⟨a', c', rfl⟩ : ∃ a' c', v' = .slice a' ((D.Y i).length + 2) c' := by
    rcases ho.2 with ⟨_, h0⟩ | ⟨gg, cc, _, rfl, _⟩
    · omega
    · exact ⟨_, _, rfl⟩
  have hown : ∀ k, (m.V i).ownBlock = some k → exS S w u k ∧ ∃ cur, u.heap[k]? = some (Obj.cells cur 31 (0, 0)) := fun k e => (hg1.row i hi).own e
  have k5 : ∀ k c, exS S w u k → u.heap[k]? = some (Obj.cells c 5 (0, 0)) → w2.heap[k]? = u.heap[k]? := by
    intro k c hk hc
    refine hgr.block k (Array.getElem?_eq_some_iff.1 hc).1 (fun e => ?_)
    obtain ⟨_, cur, hh⟩ := hown k e.symm
    rw [hc] at hh
    cases hh
  have kh : w2.heap[m.h]? = u.heap[m.h]? := by
    refine hgr.block m.h hg1.lis.lt (fun e => ?_)
    obtain ⟨_, cur, hh⟩ := hown _ e.symm
    exact row_ne hg1.lis hh (by decide) rfl
  have kg : w2.heap[g]? = u.heap[g]? := by
    refine hgr.block g hg1.dev.lt (fun e => ?_)
    obtain ⟨_, cur, hh⟩ := hown _ e.symm
    exact row_ne hg1.dev hh (by decide) rfl
  have hsub : ∀ k, exS S w u k → exS S w w2 k := fun k hk => by
    rcases hk with hk | hk
    · exact .inl hk
    · exact .inr ⟨hk.1, Nat.lt_of_lt_of_le hk.2 hgr.size⟩
  have hlt : ∀ k, exS S w w2 k → k < w2.heap.size := fun k hk => by
    rcases hk with hk | hk
    · exact Nat.lt_of_lt_of_le (hg1.lt k (.inl hk)) hgr.size
    · exact hk.2
  have hown' : ∀ k, (Value.slice a' ((D.Y i).length + 2) c').ownBlock = some k → exS S w w2 k := by
    intro k e
    rcases hcase with ⟨e1, _⟩ | ⟨k', e1, e2, _⟩
    · rw [e1] at e
      exact hsub k (hown k e).1
    · rw [e1] at e
      cases e
      refine .inr ⟨Nat.le_trans hb2.size e2, ?_⟩
      rcases ho.2 with ⟨_, h0⟩ | ⟨gg, cc, cur, e3, _, hh, _⟩
      · omega
      · rw [e3] at e1
        simp [Value.ownBlock] at e1
        subst e1
        exact (Array.getElem?_eq_some_iff.1 hh).1
  have hoth : ∀ j k, j < D.n → j ≠ i → (m.V j).ownBlock = some k → w2.heap[k]? = u.heap[k]? ∧ (Value.slice a' ((D.Y i).length + 2) c').ownBlock ≠ some k := by
    intro j k hj hji e
    have hku : k < u.heap.size := hg1.lt k ((hg1.row j hj).own e).1
    have hne : (m.V i).ownBlock ≠ some k := fun e2 => hji (hg1.one j i k hj hi e e2)
    refine ⟨hgr.block k hku (fun e2 => hne e2.symm), ?_⟩
    rcases hcase with ⟨e1, _⟩ | ⟨k', e1, e2, _⟩
    · rw [e1]; exact hne
    · rw [e1]; intro e3; cases e3; omega
  have hWR : WR w2 (exS S w w2) D.blk (.slice a' ((D.Y i).length + 2) c') (D.X i :: (D.Y i ++ [zs])) := by
    have hRl : R.length = (D.Y i).length + 1 := by simpa using hR.1
    refine ⟨R ++ [r], ?_, ?_, hown'⟩
    · rw [List.map_append]
      simpa using ho
    · intro j hj
      simp only [List.length_cons, List.length_append, List.length_nil] at hj
      rw [← List.cons_append]
      by_cases hj2 : j < (D.Y i).length + 1
      · rw [List.getElem?_append_left (by omega), List.getElem?_append_left (by simpa using hj2)]
        exact (hRa j (by simpa using hj2)).kept k5 hsub
      · obtain rfl : j = (D.Y i).length + 1 := by omega
        rw [List.getElem?_append_right (by omega), List.getElem?_append_right (by simp), hRl]
        simpa using hrow.kept k5 hsub
  refine ⟨a', c', w2, hrn, kg.trans hgb, kh.trans hhb, ?_⟩
  -- the device, where the list of block i is the new one already
  have dev2 := hg1.dev.of_block kg
  have lis2 := hg1.lis.of_block kh
  have ne : ∀ (k' : Nat) (c : Array Value) (t : TypeId), t ≠ 54 → w2.heap[k']? = some (Obj.cells c t (0, 0)) → (w2.setCell ⟨m.h, i, none⟩ (.slice a' ((D.Y i).length + 2) c')).heap[k']? = w2.heap[k']? := fun k' c t ht hh =>
    Below.heap_setCell _ _ _ _ (row_ne lis2 hh (fun e => ht e.symm))
  have kv : ∀ {v' : Value} {Z' : List (List Int)}, WR w2 (exS S w w2) D.blk v' Z' → WR (w2.setCell ⟨m.h, i, none⟩ (.slice a' ((D.Y i).length + 2) c')) (exS S w w2) D.blk v' Z' := by
    intro v' Z' hw
    refine hw.kept (fun k' c _ hh => ne k' c 5 (by decide) hh) (fun k' e => ?_) (fun _ h => h)
    obtain ⟨_, cur, hh⟩ := hw.own e
    exact ne _ _ _ (by decide) hh
  refine ⟨exS S w w2, ⟨{ m with V := fun j => if j = i then .slice a' ((D.Y i).length + 2) c' else m.V j }, ?_⟩, ?_⟩
  · rw [← put_add]
    refine ⟨(dev2.setOther (rows_ne lis2 dev2 (by decide)) _).congr (fun j hj => rfl), lis2.set i _, h.hn, hsub _ hg1.sg, hsub _ hg1.sh, fun j hj => ?_, fun x y k hx hy' ea eb => ?_, fun k hk => by simpa [World.setCell] using hlt k hk, ⟨h.ok.n1, h.ok.n2, h.ok.b1, h.ok.b2, fun j hj => ?_, h.ok.f1, h.ok.f2⟩⟩
    · simp only [Dev.put]
      by_cases e : j = i
      · subst e
        simp only [if_true]
        exact kv hWR
      · simp only [if_neg e]
        exact kv ((hg1.row j hj).kept k5 (fun k ek => (hoth j k hj e ek).1) hsub)
    · by_cases e1 : x = i
      · by_cases e2 : y = i
        · omega
        · simp only [e1, if_true] at ea
          simp only [if_neg e2] at eb
          exact absurd ea (hoth y k hy' e2 eb).2
      · by_cases e2 : y = i
        · simp only [e2, if_true] at eb
          simp only [if_neg e1] at ea
          exact absurd eb (hoth x k hx e1 ea).2
        · simp only [if_neg e1] at ea
          simp only [if_neg e2] at eb
          exact h.one x y k hx hy' ea eb
    · simp only [Dev.put]
      by_cases e : j = i
      · simp only [e, if_true, List.length_append, List.length_cons, List.length_nil]; omega
      · simp only [if_neg e]; exact h.ok.y j hj
  · refine ⟨(⟨hgr.os.trans hb2.os, hgr.tape.trans hb2.tape, hgr.output.trans hb2.output, Nat.le_trans hb2.size hgr.size, fun k hk hn => ?_⟩ : Fr S w w2).setCell h.sh _, fun k hk hS => ?_⟩
    · refine (hgr.block k (Nat.lt_of_lt_of_le hk hb2.size) (fun e => hn ?_)).trans (hb2.block k hk)
      rcases (hown k e.symm).1 with hs | hs
      · exact hs
      · omega
    · rcases hS with hS | hS
      · exact hS
      · omega

end Go.Proofs.Ytikpmchjlpobdaa
