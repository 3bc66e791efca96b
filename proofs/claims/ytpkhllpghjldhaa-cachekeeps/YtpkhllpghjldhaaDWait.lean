/- The contract of wait, where there is room. -/
import Derived.Test.YtpkhllpghjldhaaDApp
import Derived.Deep.RegionLaw
namespace Go.Proofs.Ytpkhllpghjldhaa
open Go.RowKit Go.Shelf
set_option linter.unusedVariables false

/-- One more write waits. -/
def Dev.add (D : Dev) (i : Nat) (zs : List Int) : Dev := { D with Y := fun j => if j = i then D.Y i ++ [zs] else D.Y j }

theorem infoS : (Try.prog.info? 36).map (fun i => (i.zero, i.size, i.bytes)) = some (some (.slice none 0 0), 1, 24) := by kernel_rfl

theorem DvM.ownW {w : World} {S : Nat → Prop} {g : Nat} {D : Dev} {m : Mem} (h : DvM w S g D m) {i k : Nat} (hi : i < D.n) (e : (m.W i).ownBlock = some k) : S k ∧ ∃ cur, w.heap[k]? = some (.cells cur 36 (0, 0)) := by
  obtain ⟨a, c, e1, _, _, _, hx⟩ := (h.wai i hi).shape
  rw [e1] at e
  cases a with
  | none => simp [Value.ownBlock] at e
  | some x =>
    obtain ⟨k2, cur, rfl, hs, hh, _⟩ := hx x rfl
    simp [Value.ownBlock] at e
    subst e
    exact ⟨hs, cur, hh⟩

/-- A new row, appended to what waits of block i. -/
theorem DvM.waits {w w1 : World} {S : Nat → Prop} {g : Nat} {D : Dev} {m : Mem} (h : DvM w S g D m) {i : Nat} (hi : i < D.n) (hy : (D.Y i).length < 400) (hb : Below w.heap.size w w1) {zs : List Int} (hB : Block w1 w.heap.size zs) (hl : zs.length = D.blk) (hz : ∀ z ∈ zs, 0 ≤ z ∧ z ≤ 255) :
    ∃ a' c' w2, (∀ ty, (Builtin.append_ #[50, 50] ty #[m.W i, .slice (some ⟨w1.heap.size, 0, none⟩) 1 1]).run Try.prog (w1.alloc (.cells #[.slice (some ⟨w.heap.size, 0, none⟩) D.blk D.blk] 36)) = .ok (.slice a' ((D.Y i).length + 1) c') w2) ∧
      w2.cell? ⟨m.h, 2 * i + 1, none⟩ = some (m.W i) ∧ w2.frozen? ⟨m.h, 2 * i + 1, none⟩ = false ∧
      Hid (∃ S', Dv (w2.setCell ⟨m.h, 2 * i + 1, none⟩ (.slice a' ((D.Y i).length + 1) c')) S' g (D.add i zs) ∧ Nx S w S' (w2.setCell ⟨m.h, 2 * i + 1, none⟩ (.slice a' ((D.Y i).length + 1) c'))) := by
  have hb1 : Below w1.heap.size w1 (w1.alloc (.cells #[.slice (some ⟨w.heap.size, 0, none⟩) D.blk D.blk] 36)) := (Below.refl _ _).alloc (Nat.le_refl _) _
  have hb2 : Below w.heap.size w (w1.alloc (.cells #[.slice (some ⟨w.heap.size, 0, none⟩) D.blk D.blk] 36)) := hb.alloc hb.size _
  have hnew : (w1.alloc (.cells #[.slice (some ⟨w.heap.size, 0, none⟩) D.blk D.blk] 36)).cell? ⟨w1.heap.size, 0, none⟩ = some (.slice (some ⟨w.heap.size, 0, none⟩) D.blk D.blk) :=
    (World.rowIs_alloc w1 #[.slice (some ⟨w.heap.size, 0, none⟩) D.blk D.blk] 36 (fun _ => .slice (some ⟨w.heap.size, 0, none⟩) D.blk D.blk) (fun j hj => by simp at hj; subst hj; rfl)).cell (i := 0) (by simp)
  have hB2 : Block (w1.alloc (.cells #[.slice (some ⟨w.heap.size, 0, none⟩) D.blk D.blk] 36)) w.heap.size zs := hB.below hb1 hB.lt
  have hg1 := h.grow hb2
  have hrow := RowAt.new (S := S) hB2 hl h.ok.b2 hz
  generalize w1.alloc (.cells #[.slice (some ⟨w.heap.size, 0, none⟩) D.blk D.blk] 36) = u at *
  obtain ⟨R, hR, hRa, hRo⟩ := hg1.wai i hi
  obtain ⟨v', w2, hr, ho, hgr, hcase⟩ := run_append_vals 50 36 (.slice none 0 0) 24 Try.underlying50 infoS rfl hR ⟨w1.heap.size, 0, none⟩ 1 1 [.slice (some ⟨w.heap.size, 0, none⟩) D.blk D.blk] rfl (by omega) (by
      intro j x hj
      cases j with
      | zero => simp at hj; subst hj; simpa [Addr.add] using hnew
      | succ j => simp at hj) (by intro x hx; simp at hx; subst hx; rfl) (by unfold maxLen; omega) (by omega)
  obtain ⟨a', c', rfl⟩ : ∃ a' c', v' = .slice a' ((D.Y i).length + 1) c' := by
    rcases ho.2 with ⟨_, h0⟩ | ⟨gg, cc, _, rfl, _⟩
    · omega
    · exact ⟨_, _, rfl⟩
  -- what stays
  have k5 : ∀ k c, exS S w u k → u.heap[k]? = some (Obj.cells c 5 (0, 0)) → w2.heap[k]? = u.heap[k]? := by
    intro k c hk hc
    refine hgr.block k (Array.getElem?_eq_some_iff.1 hc).1 (fun e => ?_)
    obtain ⟨_, cur, hh⟩ := hg1.ownW hi e.symm
    rw [hc] at hh
    cases hh
  have kh : w2.heap[m.h]? = u.heap[m.h]? := by
    refine hgr.block m.h hg1.pla.lt (fun e => ?_)
    obtain ⟨_, cur, hh⟩ := hg1.ownW hi e.symm
    exact row_ne hg1.pla hh (by decide) rfl
  have kg : w2.heap[g]? = u.heap[g]? := by
    refine hgr.block g hg1.dev.lt (fun e => ?_)
    obtain ⟨_, cur, hh⟩ := hg1.ownW hi e.symm
    exact row_ne hg1.dev hh (by decide) rfl
  have hsub : ∀ k, exS S w u k → exS S w w2 k := fun k hk => by
    rcases hk with hk | hk
    · exact .inl hk
    · exact .inr ⟨hk.1, Nat.lt_of_lt_of_le hk.2 hgr.size⟩
  have hlt : ∀ k, exS S w w2 k → k < w2.heap.size := fun k hk => by
    rcases hk with hk | hk
    · exact Nat.lt_of_lt_of_le (hg1.lt k (.inl hk)) hgr.size
    · exact hk.2
  have hown' : ∀ k, (Value.slice a' ((D.Y i).length + 1) c').ownBlock = some k → exS S w w2 k := by
    intro k e
    rcases hcase with ⟨e1, _⟩ | ⟨k', e1, e2, _⟩
    · rw [e1] at e
      exact hsub k (hg1.ownW hi e).1
    · rw [e1] at e
      cases e
      refine .inr ⟨Nat.le_trans hb2.size e2, ?_⟩
      rcases ho.2 with ⟨_, h0⟩ | ⟨gg, cc, cur, e3, _, hh, _⟩
      · omega
      · rw [e3] at e1
        simp [Value.ownBlock] at e1
        subst e1
        exact (Array.getElem?_eq_some_iff.1 hh).1
  have hWR : WR w2 (exS S w w2) D.blk (.slice a' ((D.Y i).length + 1) c') (D.Y i ++ [zs]) := by
    have hRl : R.length = (D.Y i).length := by simpa using hR.1
    refine ⟨R ++ [(w.heap.size, D.blk)], ?_, ?_, hown'⟩
    · rw [List.map_append, List.length_append]
      exact ho
    · intro j hj
      simp only [List.length_append, List.length_cons, List.length_nil] at hj
      by_cases hj2 : j < (D.Y i).length
      · rw [List.getElem?_append_left (by omega), List.getElem?_append_left hj2]
        exact (hRa j hj2).kept k5 hsub
      · obtain rfl : j = (D.Y i).length := by omega
        rw [List.getElem?_append_right (by omega), List.getElem?_append_right (by omega), hRl]
        simpa using hrow.kept k5 hsub
  refine ⟨a', c', w2, hr, ?_, ?_, ?_⟩
  · rw [World.cell?_of_block (a := ⟨m.h, 2 * i + 1, none⟩) kh]; exact (hg1.place hi).2.1
  · rw [World.frozen?_of_block (a := ⟨m.h, 2 * i + 1, none⟩) kh]; exact (hg1.place hi).2.2 _
  · -- the device, but for what waits of block i
    have ne : ∀ (k' : Nat) c t, t ≠ 62 → w2.heap[k']? = some (Obj.cells c t (0, 0)) → (w2.setCell ⟨m.h, 2 * i + 1, none⟩ (.slice a' ((D.Y i).length + 1) c')).heap[k']? = w2.heap[k']? := fun k' c t ht hh =>
      Below.heap_setCell _ _ _ _ (row_ne (hg1.pla.of_block kh) hh (fun e => ht e.symm))
    have hoth : ∀ j k, j < D.n → j ≠ i → (m.W j).ownBlock = some k → w2.heap[k]? = u.heap[k]? ∧ (Value.slice a' ((D.Y i).length + 1) c').ownBlock ≠ some k := by
      intro j k hj hji e
      have hku : k < u.heap.size := hg1.lt k (hg1.ownW hj e).1
      have hne : (m.W i).ownBlock ≠ some k := fun e2 => hji (hg1.one j i k hj hi e e2)
      refine ⟨hgr.block k hku (fun e2 => hne e2.symm), ?_⟩
      rcases hcase with ⟨e1, _⟩ | ⟨k', e1, e2, _⟩
      · rw [e1]; exact hne
      · rw [e1]; intro e3; cases e3; omega
    refine ⟨exS S w w2, ⟨{ m with W := fun j => if j = i then .slice a' ((D.Y i).length + 1) c' else m.W j }, ?_⟩, ?_⟩
    · have w5 : ∀ k c, exS S w w2 k → w2.heap[k]? = some (Obj.cells c 5 (0, 0)) → (w2.setCell ⟨m.h, 2 * i + 1, none⟩ (.slice a' ((D.Y i).length + 1) c')).heap[k]? = w2.heap[k]? := fun k c _ hc => ne k c 5 (by decide) hc
      have wW : ∀ {v : Value} {Z : List (List Int)}, WR w2 (exS S w w2) D.blk v Z → WR (w2.setCell ⟨m.h, 2 * i + 1, none⟩ (.slice a' ((D.Y i).length + 1) c')) (exS S w w2) D.blk v Z := by
        intro v Z hw
        refine hw.kept w5 (fun k' e => ?_) (fun _ h => h)
        obtain ⟨a, c, e1, _, _, _, hx⟩ := hw.shape
        rw [e1] at e
        cases a with
        | none => simp [Value.ownBlock] at e
        | some x =>
          obtain ⟨k2, cur, rfl, _, hh, _⟩ := hx x rfl
          simp [Value.ownBlock] at e
          subst e
          exact ne _ _ _ (by decide) hh
      refine ⟨((hg1.dev.of_block kg).setOther (rows_ne (hg1.pla.of_block kh) (hg1.dev.of_block kg) (by decide)) _), ((hg1.pla.of_block kh).set (2 * i + 1) _).congr (fun j hj => ?_), hsub _ hg1.sg, hsub _ hg1.sh, ?_, ?_, ?_, fun k hk => by simpa [World.setCell] using hlt k hk, h.fuse, ⟨h.ok.n1, h.ok.n2, h.ok.b1, h.ok.b2, fun j hj => ?_, h.ok.f1, h.ok.f2⟩⟩
      · simp only [pcell, Dev.add]
        by_cases e : j = 2 * i + 1
        · subst e
          have e1 : (2 * i + 1) % 2 = 1 := by omega
          have e2 : (2 * i + 1) / 2 = i := by omega
          simp [e1, e2]
        · rw [if_neg e]
          by_cases e1 : j % 2 = 0
          · simp [e1]
          · have e2 : ¬ j / 2 = i := by omega
            simp [e1, e2]
      · intro j hj
        exact ((hg1.arr j hj).kept k5 hsub).kept w5 (fun _ h => h)
      · intro j hj
        simp only [Dev.add]
        by_cases e : j = i
        · subst e
          simp only [if_true]
          exact wW hWR
        · simp only [if_neg e]
          exact wW ((hg1.wai j hj).kept k5 (fun k ek => (hoth j k hj e ek).1) hsub)
      · intro x y k hx hy ea eb
        by_cases e1 : x = i
        · by_cases e2 : y = i
          · omega
          · simp only [e1, if_true] at ea
            simp only [if_neg e2] at eb
            exact absurd ea (hoth y k hy e2 eb).2
        · by_cases e2 : y = i
          · simp only [e2, if_true] at eb
            simp only [if_neg e1] at ea
            exact absurd eb (hoth x k hx e1 ea).2
          · simp only [if_neg e1] at ea
            simp only [if_neg e2] at eb
            exact h.one x y k hx hy ea eb
      · simp only [Dev.add]
        by_cases e : j = i
        · simp only [e, if_true, List.length_append, List.length_cons, List.length_nil]; omega
        · simp only [if_neg e]; exact h.ok.y j hj
    · refine ⟨(⟨hgr.os.trans hb2.os, hgr.tape.trans hb2.tape, hgr.output.trans hb2.output, Nat.le_trans hb2.size hgr.size, fun k hk hn => ?_⟩ : Fr S w w2).setCell h.sh _, fun k hk hS => ?_⟩
      · refine (hgr.block k (Nat.lt_of_lt_of_le hk hb2.size) (fun e => hn ?_)).trans (hb2.block k hk)
        rcases (hg1.ownW hi e.symm).1 with hs | hs
        · exact hs
        · omega
      · rcases hS with hS | hS
        · exact hS
        · omega

set_option maxHeartbeats 1000000 in
theorem wait_room (o i h : Nat) (a : Option Addr) (cap : Nat) (zs : List Int) (S : Nat → Prop) (g : Nat) (D : Dev) (m : Mem) (w : World) (hD : DvM w S g D m) (hi : i < D.n) (ho : o = 2 * i) (hh : h = m.h) (hy : (D.Y i).length < 400) (hr : Row w.heap.size w a D.blk cap zs) :
    Calls Try.prog 66 #[.pointer (some ⟨h, o, none⟩), .slice a D.blk cap] w fun e w' => e = .returned (.tuple #[]) ∧ ∃ S', Dv w' S' g (D.add i zs) ∧ Nx S w S' w' := by
  subst hh
  obtain ⟨c0, c1, f⟩ := hD.place hi
  have C := hide ((copied_any _ _ _ _ w.drew hr).mono (fun e w' h => (⟨h.1, h.2.1, undrew h.2.2⟩ : e = .returned (.slice (some ⟨w.heap.size, 0, none⟩) D.blk D.blk) ∧ Block w' w.heap.size zs ∧ Below w.heap.size w w')))
  have KL : Hid (∀ w1, Below w.heap.size w w1 → Block w1 w.heap.size zs → w1.cell? ⟨m.h, 2 * i + 1, none⟩ = some (m.W i) ∧ (w1.alloc (.cells #[.slice (some ⟨w.heap.size, 0, none⟩) D.blk D.blk] 36)).cell? ⟨m.h, 2 * i + 1, none⟩ = some (m.W i) ∧ _) := fun w1 hb hB => ⟨((hD.grow hb).place hi).2.1, ((hD.grow (hb.alloc hb.size _)).place hi).2.1, hD.waits hi hy hb hB hr.1 hr.2.2.2.1⟩
  obtain ⟨aw, cw, ew, hc, hm, _⟩ := (hD.wai i hi).shape
  rw [ew] at KL c1
  rw [← ho] at KL c0 c1
  have n1 : ((((D.Y i).length : Nat) : Int) == 400) = false := by simp; omega
  unfold maxLen at hm
  generalize (D.Y i).length = lw at *
  generalize hq : D.add i zs = D' at *
  generalize m.A i = r at *
  obtain ⟨r1, r2⟩ := r
  generalize m.h = hh at *
  generalize D.n = nn at *
  generalize D.blk = bb at *
  clear hD hr hq ew f ho
  go_enter Try.func66, Try.ntmps66
  go_upto_region 3 with fail
  have c1' : w.drew.cell? ⟨hh, o + 1, none⟩ = some (.slice aw lw cw) := c1
  clear c1 c0
  go_region_law (first
    | (refine step_append_run (by rfl) _ _ _ (by rfl) _ _ _ (by rfl) (by rfl) (unhide R) ?_; clear R)
    | (go_simp; go_at_call 46; refine (unhide C).mono ?_; rintro e w1 ⟨rfl, hB, hb⟩; obtain ⟨d1, d0, a', c', w2, R', d2, d3, d4⟩ := unhide KL w1 hb hB; have R := hide R'; clear C KL hB hb R'))
  all_goals
    go_wp2_with fail
    go_end0
    exact ⟨rfl, unhide d4⟩

end Go.Proofs.Ytpkhllpghjldhaa
