/- resize, where a file grows. -/
import Derived.Test.YtknmgefpjdfenaaTRead
import Derived.Test.YtknmgefpjdfenaaBZeros
import Derived.Deep.RegionLaw
namespace Go.Proofs.Ytknmgefpjdfenaa
open Go.RowKit Go.Shelf Go.Maps
set_option linter.unusedVariables false
set_option maxRecDepth 100000

/-- A file's bytes lie elsewhere, or are others. -/
theorem TM.setD {u w' : World} {S S' : Nat → Prop} {g b : Nat} {s : Tr} {t : Th} (h : TM u S g s) (e : s.T b = some t) {a' : Option Addr} {c' : Nat} {d' : List Int} (ho : Own 0 w' a' d'.length c' d')
    (hk : ∀ k, k < u.heap.size → (∀ x, t.da = some ⟨x, 0, none⟩ → k ≠ x) → w'.heap[k]? = u.heap[k]?) (hz : u.heap.size ≤ w'.heap.size) (hS : ∀ k, S k → S' k) (hl : ∀ k, S' k → k < w'.heap.size)
    (ha : ∀ x, a' = some ⟨x, 0, none⟩ → S' x ∧ (t.da = some ⟨x, 0, none⟩ ∨ u.heap.size ≤ x)) :
    TM (w'.setCell ⟨b, 3, none⟩ (.slice a' d'.length c')) S' g (s.upd b { t with d := d', da := a', dc := c' }) := by
  have ht := h.thg b t e
  have hbx : ∀ k t' n f, u.rowIs k t' n f → t' ≠ 5 → w'.heap[k]? = u.heap[k]? := fun k t' n f hr hne => hk k hr.lt (fun x ex e' => by
    subst e'
    obtain ⟨_, _, cur, hcu⟩ := (h.dat b t e).lt ex
    exact row_neT hr hcu hne rfl)
  have ht' := ht.of_block (hbx b _ _ _ ht (by decide))
  have ko : ∀ k, k ≠ b → (w'.setCell ⟨b, 3, none⟩ (.slice a' d'.length c')).heap[k]? = w'.heap[k]? := fun k hk => Below.heap_setCell _ _ _ _ hk
  have other : ∀ b2 t2 x y, b2 ≠ b → s.T b2 = some t2 → t2.da = some ⟨x, 0, none⟩ → a' = some ⟨y, 0, none⟩ → x ≠ y := fun b2 t2 x y hne e2 hx hy exy => by
    subst exy
    rcases (ha x hy).2 with q | q
    · exact hne (h.da1 b2 b t2 t x e2 e hx q)
    · have := h.lt x (h.sd b2 t2 x e2 hx); omega
  refine ⟨((h.str.of_block (hbx g _ _ _ h.str (by decide))).of_block (ko g (fun e' => (rows_neT ht h.str (by decide)) e'))).congr (fun i hi => rfl), ?_, ?_, ?_, ?_, ?_, ?_, hS _ h.sg, fun x ex => hS _ (h.sr x ex), ?_, ?_, ?_, fun k hk => by simpa [World.setCell] using hl k hk⟩
  · refine (h.row.kept (w' := w') (fun x ex => ?_)).kept (fun x ex => ?_)
    · obtain ⟨hlt, _, cur, hcu⟩ := h.row.lt ex
      exact hk x hlt (fun y ey e' => by
        subst e'
        obtain ⟨_, _, cur2, hcu2⟩ := (h.dat b t e).lt ey
        rw [hcu] at hcu2
        exact absurd (cells_ty hcu2) (by decide))
    · obtain ⟨_, _, cur, hcu⟩ := h.row.lt ex
      exact ko x (row_neT ht hcu (by decide))
  · intro b2 t2 e2
    rw [Tr.upd_T] at e2
    by_cases hb : b2 = b
    · subst hb
      rw [if_pos rfl] at e2
      cases e2
      refine (ht'.set 3 _).congr (fun i hi => ?_)
      match i, hi with
      | 0, _ => rfl
      | 1, _ => rfl
      | 2, _ => rfl
      | 3, _ => rfl
      | 4, _ => rfl
    · rw [if_neg hb] at e2
      have h2 := h.thg b2 t2 e2
      exact (h2.of_block (hbx b2 _ _ _ h2 (by decide))).of_block (ko b2 hb)
  · intro b2 t2 e2 hd
    rw [Tr.upd_T] at e2
    have km : ∀ t3 : Th, s.T b2 = some t3 → t3.k = 2 → MapS (w'.setCell ⟨b, 3, none⟩ (.slice a' d'.length c')) t3.mp t3.ns := fun t3 e3 h3 => by
      have hm := h.map b2 t3 e3 h3
      refine (hm.kept (u' := w') (hk _ hm.lt (fun x ex e' => ?_))).kept (ko _ (map_neT ht hm))
      obtain ⟨_, _, cur, hcu⟩ := (h.dat b t e).lt ex
      exact hm.ne hcu e'.symm
    by_cases hb : b2 = b
    · subst hb
      rw [if_pos rfl] at e2
      cases e2
      exact km t e hd
    · rw [if_neg hb] at e2
      exact km t2 e2 hd
  · intro b2 t2 e2
    rw [Tr.upd_T] at e2
    by_cases hb : b2 = b
    · rw [if_pos hb] at e2
      cases e2
      exact ho.kept (fun x ex => by obtain ⟨_, _, cur, hcu⟩ := ho.lt ex; exact ko x (row_neT ht' hcu (by decide)))
    · rw [if_neg hb] at e2
      refine ((h.dat b2 t2 e2).kept (w' := w') (fun x ex => ?_)).kept (fun x ex => ?_)
      · obtain ⟨hlt, _, cur, hcu⟩ := (h.dat b2 t2 e2).lt ex
        exact hk x hlt (fun y ey e' => by subst e'; exact hb (h.da1 b2 b t2 t x e2 e ex ey))
      · obtain ⟨_, _, cur, hcu⟩ := (h.dat b2 t2 e2).lt ex
        exact ko x (row_neT ht hcu (by decide))
  · intro b1 b2 t1 t2 e1 e2 k1 k2 hm
    rw [Tr.upd_T] at e1 e2
    by_cases h1 : b1 = b
    · by_cases h2 : b2 = b
      · rw [h1, h2]
      · rw [if_pos h1] at e1
        rw [if_neg h2] at e2
        cases e1
        rw [h1]
        exact h.mp1 b b2 t t2 e e2 k1 k2 hm
    · by_cases h2 : b2 = b
      · rw [if_neg h1] at e1
        rw [if_pos h2] at e2
        cases e2
        rw [h2]
        exact h.mp1 b1 b t1 t e1 e k1 k2 hm
      · rw [if_neg h1] at e1
        rw [if_neg h2] at e2
        exact h.mp1 b1 b2 t1 t2 e1 e2 k1 k2 hm
  · intro b1 b2 t1 t2 x e1 e2 x1 x2
    rw [Tr.upd_T] at e1 e2
    by_cases h1 : b1 = b
    · by_cases h2 : b2 = b
      · rw [h1, h2]
      · rw [if_pos h1] at e1
        rw [if_neg h2] at e2
        cases e1
        exact absurd rfl (other b2 t2 x x h2 e2 x2 x1)
    · by_cases h2 : b2 = b
      · rw [if_neg h1] at e1
        rw [if_pos h2] at e2
        cases e2
        exact absurd rfl (other b1 t1 x x h1 e1 x1 x2)
      · rw [if_neg h1] at e1
        rw [if_neg h2] at e2
        exact h.da1 b1 b2 t1 t2 x e1 e2 x1 x2
  · intro b2 t2 e2
    rw [Tr.upd_T] at e2
    by_cases hb : b2 = b
    · rw [hb]; exact hS _ (h.sb b t e)
    · rw [if_neg hb] at e2; exact hS _ (h.sb b2 t2 e2)
  · intro b2 t2 e2 hd
    rw [Tr.upd_T] at e2
    by_cases hb : b2 = b
    · rw [if_pos hb] at e2
      cases e2
      exact hS _ (h.sm b t e hd)
    · rw [if_neg hb] at e2; exact hS _ (h.sm b2 t2 e2 hd)
  · intro b2 t2 x e2 hx
    rw [Tr.upd_T] at e2
    by_cases hb : b2 = b
    · rw [if_pos hb] at e2
      cases e2
      exact (ha x hx).1
    · rw [if_neg hb] at e2; exact hS _ (h.sd b2 t2 x e2 hx)

theorem step_append_two {w w' : World} {ops : Array Oper} {o : Oper} {a : Act} {K' : Act → World → Prop} {Q : Exit → Act → World → Prop} {E : Prop} (hw : Region.wanted o (yielded ops a.tmps) = true) (d s : Operand) (t t2 : TypeId)
    (ho : o.op = .call { callee := .builtin .append, args := #[d, s], argTypes := #[t, t2] }) (v x v' : Value) (hd : a.eval d = v) (hs : a.eval s = x)
    (hrun : (Builtin.append_ #[t, t2] o.type #[v, x]).run Try.prog w = .ok v' w')
    (h : K' (a.put o.dst v') w') : if Region.wanted o (yielded ops a.tmps) = true then Oper.wp Try.prog o a w K' Q else E := by
  rw [if_pos hw]
  unfold Oper.wp
  simp [execOp, ho, resolve, invoke, builtin, hd, hs, hrun, Result.andThen]
  exact h

set_option maxHeartbeats 2000000 in
theorem resize_grow {w : World} {S : Nat → Prop} {g b : Nat} {s : Tr} {t : Th} (h : TM w S g s) (ht : s.T b = some t) (k : Nat) (hd : t.d.length + k ≤ 1000000) :
    Calls Try.prog 25 #[.pointer (some ⟨b, 0, none⟩), .int .i64 ((t.d.length + k : Nat) : Int)] w fun e w' => ∃ a c, e = .returned (.tuple #[]) ∧ TM w' (Up S w.heap.size w'.heap.size) g (s.upd b { t with d := t.d ++ List.replicate k 0, da := a, dc := c }) ∧ Kp S w w' := by
  obtain ⟨_, _, _, c3, _, cf⟩ := h.thing_cells ht
  have hO := h.dat b t ht
  obtain ⟨a', c', w1, R, o1, hk, hB, hx⟩ := run_append_zerosB 0 w.drew 22 t.da t.d.length t.dc t.d hO (Nat.zero_le _) k (by omega)
  have hlen : (t.d ++ List.replicate k 0).length = t.d.length + k := by simp
  have hsz : w.heap.size ≤ w1.heap.size := hB.size
  have hfr : ∀ j, w1.frozen? ⟨b, j, none⟩ = false := by
    have hbk : w1.heap[b]? = w.heap[b]? := hk b (h.thg b t ht).lt (fun x ex e' => by
      subst e'
      obtain ⟨_, _, cur, hcu⟩ := hO.lt ex
      exact row_neT (h.thg b t ht) hcu (by decide) rfl)
    exact fun j => ((h.thg b t ht).of_block hbk).frozen j
  have hcc : ∃ cc, w1.cell? ⟨b, 3, none⟩ = some cc := by
    have hbk : w1.heap[b]? = w.heap[b]? := hk b (h.thg b t ht).lt (fun x ex e' => by
      subst e'
      obtain ⟨_, _, cur, hcu⟩ := hO.lt ex
      exact row_neT (h.thg b t ht) hcu (by decide) rfl)
    exact ⟨_, ((h.thg b t ht).of_block hbk).cell (i := 3) (by omega)⟩
  obtain ⟨cc, hcc⟩ := hcc
  have HR : Hid (TM (w1.setCell ⟨b, 3, none⟩ (.slice a' (t.d.length + k) c')) (Up S w.heap.size w1.heap.size) g (s.upd b { t with d := t.d ++ List.replicate k 0, da := a', dc := c' }) ∧ Kp S w (w1.setCell ⟨b, 3, none⟩ (.slice a' (t.d.length + k) c'))) := by
    refine ⟨?_, ?_⟩
    · have := h.setD (w' := w1) (S' := Up S w.heap.size w1.heap.size) ht (a' := a') (c' := c') (d' := t.d ++ List.replicate k 0) (by rw [hlen]; exact o1) hk hsz (fun x hx => .inl hx)
        (fun x hx => hx.elim (fun q => Nat.lt_of_lt_of_le (h.lt x q) hsz) (fun q => q.2)) (fun x ex => by
          have hlt := (o1.lt ex).1
          rcases hx with ⟨q, _⟩ | ⟨g', q, hg'⟩
          · rw [q] at ex
            exact ⟨.inl (h.sd b t x ht ex), .inl ex⟩
          · rw [q] at ex
            cases ex
            exact ⟨.inr ⟨hg', hlt⟩, .inr hg'⟩)
      rw [hlen] at this
      exact this
    · have hkp : Kp S w w1 := ⟨hB.os, hB.tape, hB.output, hB.size, fun x hlt hs => hk x hlt (fun y ey e' => hs (by rw [e']; exact h.sd b t y ht ey))⟩
      exact hkp.setCell (p := ⟨b, 3, none⟩) (.inl (h.sb b t ht)) _
  have HZ : Hid ((w1.setCell ⟨b, 3, none⟩ (.slice a' (t.d.length + k) c')).heap.size = w1.heap.size) := by unfold Hid; simp [World.setCell]
  have e1 : ((t.d.length + k : Nat) : Int) - (t.d.length : Int) = (k : Int) := by omega
  have d1 : decide (t.d.length + k < t.d.length) = false := by simp
  have hwk : IntKind.i64.wrap (k : Int) = k := by rw [IntKind.wrap_i64]; omega
  have R : Hid ((Builtin.append_ #[22, 3] 22 #[.slice t.da t.d.length t.dc, .int .i64 (IntKind.i64.wrap (k : Int))]).run Try.prog w.drew = .ok (.slice a' (t.d.length + k) c') w1) := by unfold Hid; rw [hwk]; exact R
  clear hwk
  clear h ht hO o1 hk hB hx hlen hsz
  generalize hn : t.d.length + k = n at *
  generalize t.d.length = m at *
  go_enter Try.func25, Try.ntmps25
  go_wp2_with fail
  go_region_law (refine step_append_two (by rfl) _ _ _ _ (by rfl) _ _ _ (by rfl) (by rfl) (unhide R) ?_; clear R)
  all_goals
    go_wp2_with fail
    go_end0
    exact ⟨a', c', rfl, by rw [HZ.out]; exact HR.out.1, HR.out.2⟩

end Go.Proofs.Ytknmgefpjdfenaa
