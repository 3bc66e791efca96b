/- The plain states of skerryref01.BytesApart, where the slices are grown. -/
import Derived.Test.YtmdnkkmlgjpdcaaApart2
namespace Go.Proofs.Ytmdnkkmlgjpdcaa
open Go.RowKit Go.Shelf
set_option linter.unusedVariables false

/-- A slice as a value: its address, its length, its capacity. -/
def sval (t : Option Addr × Nat × Nat) : Value := .slice t.1 t.2.1 t.2.2

/-- The byte q of those that were appended to slice p. -/
def ext (S : Lists) (p q : Nat) : Int := mk ((S.off S.N + 6 * p + q : Nat) : Int)

/-- All slices are marked; the first i are grown, as us says, and stand in the row gv (from block B2 on); their rows are none of those of the slices to come. -/
def Ph2 (S : Lists) (B2 : Nat) (w0 w : World) (i : Nat) (us : List (Option Addr × Nat × Nat)) (gv : Value) : Prop :=
  Ph1 S w0 w S.N 0 ∧ us.length = i ∧ w.ownsRow B2 22 1 gv i (us.map sval) ∧
  (∀ p t, us[p]? = some t → t.2.1 = S.L p + 6 ∧ ∃ cs, Own S.B w t.1 t.2.1 t.2.2 cs ∧ ∀ q, q < 6 → cs[S.L p + q]?.getD 0 = ext S p q) ∧
  (∀ t ∈ us, ∀ k, i ≤ k → k < S.N → ∀ g, S.A k = some ⟨g, 0, none⟩ → t.1 ≠ some ⟨g, 0, none⟩)

/-- .. and slice i has been appended to j times: it is ga, gc now. -/
def Ph2i (S : Lists) (B2 : Nat) (w0 w : World) (i : Nat) (us : List (Option Addr × Nat × Nat)) (gv : Value) (ga : Option Addr) (gc j : Nat) : Prop :=
  Ph2 S B2 w0 w i us gv ∧
  (∃ cs, Own S.B w ga (S.L i + j) gc cs ∧ (∀ q, q < S.L i → cs[q]?.getD 0 = mk ((S.off i + q : Nat) : Int)) ∧ ∀ q, q < j → cs[S.L i + q]?.getD 0 = ext S i q) ∧
  (∀ t ∈ us, ∀ g, ga = some ⟨g, 0, none⟩ → t.1 ≠ some ⟨g, 0, none⟩) ∧
  (∀ k, k < S.N → k ≠ i → ∀ g, ga = some ⟨g, 0, none⟩ → S.A k ≠ some ⟨g, 0, none⟩) ∧
  ((ga = S.A i ∧ gc = S.C i) ∨ ∀ g, ga = some ⟨g, 0, none⟩ → S.A i ≠ some ⟨g, 0, none⟩)

theorem Own.lt {B : Nat} {w : World} {a : Option Addr} {n c : Nat} {xs : List Int} (h : Own B w a n c xs) {g : Nat} (e : a = some ⟨g, 0, none⟩) : g < w.heap.size ∧ B ≤ g ∧ ∃ cur, w.heap[g]? = some (.cells cur 5 (0, 0)) := by
  obtain ⟨_, _, _, h4⟩ := h
  rcases h4 with ⟨h4, _⟩ | ⟨g', cur, e', hg, hh, _⟩
  · rw [h4] at e; cases e
  · rw [e] at e'; cases e'
    exact ⟨(Array.getElem?_eq_some_iff.1 hh).1, hg, cur, hh⟩

/-- The row of the grown slices is kept where its block is. -/
theorem ownsRow_block {w w' : World} {B e size n : Nat} {v : Value} {xs : List Value} (h : w.ownsRow B e size v n xs) (hk : ∀ g cur, B ≤ g → w.heap[g]? = some (.cells cur e (0, 0)) → w'.heap[g]? = w.heap[g]?) : w'.ownsRow B e size v n xs := by
  obtain ⟨h1, h2⟩ := h
  refine ⟨h1, ?_⟩
  rcases h2 with h2 | ⟨g, cap, cur, rfl, hb, hh, r⟩
  · exact .inl h2
  · exact .inr ⟨g, cap, cur, rfl, hb, (hk g cur hb hh).trans hh, r⟩

/-- Ph2 where only the row of slice i may have turned, and it still holds its marks. -/
theorem Ph2.kept {S : Lists} {B2 : Nat} {w0 w w' : World} {i : Nat} {us : List (Option Addr × Nat × Nat)} {gv : Value} (hS : S.Good) (h : Ph2 S B2 w0 w i us gv) (ga : Option Addr) (hB : Below S.B w w')
    (h5 : ∀ g, ga = some ⟨g, 0, none⟩ → ∃ cur, w.heap[g]? = some (.cells cur 5 (0, 0)))
    (hk : ∀ k, k < w.heap.size → (∀ g, ga = some ⟨g, 0, none⟩ → k ≠ g) → w'.heap[k]? = w.heap[k]?)
    (hu : ∀ t ∈ us, ∀ g, ga = some ⟨g, 0, none⟩ → t.1 ≠ some ⟨g, 0, none⟩)
    (hA : ∀ k, k < S.N → k ≠ i → ∀ g, ga = some ⟨g, 0, none⟩ → S.A k ≠ some ⟨g, 0, none⟩)
    (hi : i < S.N → ∃ cs, Own S.B w' (S.A i) (S.L i) (S.C i) cs ∧ ∀ q, q < S.L i → cs[q]?.getD 0 = mk ((S.off i + q : Nat) : Int)) : Ph2 S B2 w0 w' i us gv := by
  obtain ⟨⟨hL, hBw, hown⟩, hul, hrow, hus, hfu⟩ := h
  have hty : ∀ (k : Nat) (cur : Array Value), w.heap[k]? = some (Obj.cells cur 22 (0, 0)) → w'.heap[k]? = w.heap[k]? := by
    intro k cur hh
    refine hk k (Array.getElem?_eq_some_iff.1 hh).1 (fun g e hkg => ?_)
    subst hkg
    obtain ⟨cur', h'⟩ := h5 _ e
    rw [hh] at h'; simp at h'
  refine ⟨⟨(hty _ _ hL).trans hL, hBw.trans hB, fun p hp => ?_⟩, hul, ownsRow_block hrow (fun g cur _ hh => hty g cur hh), fun p t ht => ?_, hfu⟩
  · by_cases hpi : p = i
    · subst hpi
      obtain ⟨cs, ho, hc⟩ := hi hp
      exact ⟨cs, ho, fun q hq _ => hc q hq⟩
    · obtain ⟨cs, ho, hc⟩ := hown p hp
      refine ⟨cs, ho.kept (fun g e => hk g (ho.lt e).1 (fun g' e' hgg => ?_)), hc⟩
      subst hgg
      exact hA p hp hpi _ e' e
  · obtain ⟨h1, cs, ho, hc⟩ := hus p t ht
    refine ⟨h1, cs, ho.kept (fun g e => hk g (ho.lt e).1 (fun g' e' hgg => ?_)), hc⟩
    subst hgg
    exact hu t (List.mem_of_getElem? ht) _ e' e

theorem Ph2.drewN {S : Lists} {B2 : Nat} {w0 w : World} {i : Nat} {us : List (Option Addr × Nat × Nat)} {gv : Value} (h : Ph2 S B2 w0 w i us gv) (n : Nat) : Ph2 S B2 w0 (w.drewN n) i us gv :=
  ⟨⟨h.1.1, below_drewN h.1.2.1 n, h.1.2.2⟩, h.2.1, h.2.2.1, h.2.2.2⟩

theorem Ph2.alloc {S : Lists} {B2 : Nat} {w0 w : World} {i : Nat} {us : List (Option Addr × Nat × Nat)} {gv : Value} (hS : S.Good) (h : Ph2 S B2 w0 w i us gv) (hB : S.B ≤ w.heap.size) (o : Obj) : Ph2 S B2 w0 (w.alloc o) i us gv := by
  refine h.kept hS none ((Below.refl _ w).alloc hB o) (fun g e => by cases e) (fun k hk _ => Below.heap_alloc w o k hk) (fun _ _ g e => by cases e) (fun _ _ _ g e => by cases e) (fun hi => ?_)
  obtain ⟨cs, ho, hc⟩ := h.1.2.2 i hi
  exact ⟨cs, ho.kept (fun g e => Below.heap_alloc w o g (ho.lt e).1), fun q hq => hc q hq (.inl hi)⟩

theorem Ph2.start {S : Lists} {w0 w : World} {B2 : Nat} (h : Ph1 S w0 w S.N 0) : Ph2 S B2 w0 w 0 [] (.slice none 0 0) :=
  ⟨h, rfl, World.ownsRow_nil w B2 22 1, by simp, by simp⟩

theorem Ph2i.start {S : Lists} (hS : S.Good) {B2 : Nat} {w0 w : World} {i : Nat} {us : List (Option Addr × Nat × Nat)} {gv : Value} (h : Ph2 S B2 w0 w i us gv) (hi : i < S.N) : Ph2i S B2 w0 w i us gv (S.A i) (S.C i) 0 := by
  obtain ⟨cs, ho, hc⟩ := h.1.2.2 i hi
  exact ⟨h, ⟨cs, ho, fun q hq => hc q hq (.inl hi), fun q hq => by omega⟩, fun t ht g e => h.2.2.2.2 t ht i (Nat.le_refl _) hi g e, fun k hk hki g e => hS.apart i k hi hk (by omega) g e, .inl ⟨rfl, rfl⟩⟩

/-- One append. -/
theorem Ph2i.step {S : Lists} (hS : S.Good) {B2 : Nat} {w0 w : World} {i : Nat} {us : List (Option Addr × Nat × Nat)} {gv : Value} {ga : Option Addr} {gc j : Nat} (h : Ph2i S B2 w0 w i us gv ga gc j) (hi : i < S.N) (hj : j < 6) (hB : S.B ≤ w.heap.size) :
    ∃ a' c' w', (∀ ty, (Builtin.append_ #[22, 22] ty #[.slice ga (S.L i + j) gc, .slice (some ⟨w.heap.size, 0, none⟩) 1 1]).run Try.prog (w.alloc (.cells #[.int .u8 (ext S i j)] 5)) = .ok (.slice a' (S.L i + j + 1) c') w') ∧
      Ph2i S B2 w0 w' i us gv a' c' (j + 1) ∧ w.heap.size ≤ w'.heap.size := by
  obtain ⟨h2, ⟨cs, ho, hm, he⟩, hu, hA, hd⟩ := h
  obtain ⟨z, hz⟩ : ∃ z, ext S i j = z := ⟨_, rfl⟩
  have hfit := hS.fit i hi
  have h2' := h2.alloc hS hB (.cells #[.int .u8 (ext S i j)] 5)
  have ho' : Own S.B (w.alloc (.cells #[.int .u8 (ext S i j)] 5)) ga (S.L i + j) gc cs := ho.kept (fun g e => Below.heap_alloc w _ g (ho.lt e).1)
  have hnew : (w.alloc (.cells #[.int .u8 (ext S i j)] 5)).cell? ⟨w.heap.size, 0, none⟩ = some (.int .u8 (ext S i j)) := (Boxed.new w 5 (.int .u8 (ext S i j))).cell
  obtain ⟨w1, hw1⟩ : ∃ w1, w.alloc (.cells #[.int .u8 (ext S i j)] 5) = w1 := ⟨_, rfl⟩
  have hsz : w1.heap.size = w.heap.size + 1 := by rw [← hw1]; simp
  rw [hw1] at h2' ho' hnew ⊢
  -- the type's number is not used by the run
  have hall := fun ty => run_append_byte S.B w1 ty ga (S.L i + j) gc cs ho' (by omega) w.heap.size (ext S i j) hnew (by omega)
  obtain ⟨a', c', w', hr, hown, hk, hb, hcase⟩ := hall 0
  refine ⟨a', c', w', fun ty => ?_, ?_, ?_⟩
  · have hty : (Builtin.append_ #[22, 22] ty #[.slice ga (S.L i + j) gc, .slice (some ⟨w.heap.size, 0, none⟩) 1 1]) = (Builtin.append_ #[22, 22] 0 #[.slice ga (S.L i + j) gc, .slice (some ⟨w.heap.size, 0, none⟩) 1 1]) := rfl
    rw [hty]; exact hr
  · have hmark : ∀ q, q < S.L i → (cs ++ [ext S i j])[q]?.getD 0 = mk ((S.off i + q : Nat) : Int) := by
      intro q hq
      have := ho.1
      rw [List.getElem?_append_left (by omega)]; exact hm q hq
    have hextra : ∀ q, q < j + 1 → (cs ++ [ext S i j])[S.L i + q]?.getD 0 = ext S i q := by
      intro q hq
      have hl := ho.1
      by_cases hqj : q = j
      · subst hqj
        rw [List.getElem?_append_right (by omega), hl, Nat.sub_self]; rfl
      · rw [List.getElem?_append_left (by omega)]; exact he q (by omega)
    have hAi : i < S.N → ∃ cs, Own S.B w' (S.A i) (S.L i) (S.C i) cs ∧ ∀ q, q < S.L i → cs[q]?.getD 0 = mk ((S.off i + q : Nat) : Int) := by
      intro _
      rcases hcase with ⟨rfl, rfl, hpre⟩ | ⟨g', rfl, hg', hsame⟩
      · rcases hd with ⟨e1, e2⟩ | hd
        · rw [← e1, ← e2]
          refine ⟨_, hpre (S.L i) (by omega), fun q hq => ?_⟩
          rw [List.getElem?_take_of_lt hq]; exact hm q hq
        · obtain ⟨cs', hoA, hcA⟩ := h2'.1.2.2 i hi
          refine ⟨cs', hoA.kept (fun g e => hk g (hoA.lt e).1 (fun g2 e2 hgg => ?_)), fun q hq => hcA q hq (.inl hi)⟩
          subst hgg
          exact hd _ e2 e
      · obtain ⟨cs', hoA, hcA⟩ := h2'.1.2.2 i hi
        exact ⟨cs', hoA.kept (fun g e => hsame g (hoA.lt e).1), fun q hq => hcA q hq (.inl hi)⟩
    have h2'' := h2'.kept hS ga hb (fun g e => (ho'.lt e).2.2) hk hu hA hAi
    refine ⟨h2'', ⟨cs ++ [ext S i j], hown, hmark, hextra⟩, ?_, ?_, ?_⟩
    · rcases hcase with ⟨rfl, rfl, _⟩ | ⟨g', rfl, hg', _⟩
      · exact hu
      · intro t ht g e e2
        cases e
        obtain ⟨p, hp⟩ := List.getElem?_of_mem ht
        obtain ⟨_, cs2, ho2, _⟩ := h2'.2.2.2.1 p t hp
        have := (ho2.lt e2).1
        omega
    · rcases hcase with ⟨rfl, rfl, _⟩ | ⟨g', rfl, hg', _⟩
      · exact hA
      · intro k hk' hki g e e2
        cases e
        obtain ⟨cs2, ho2, _⟩ := h2'.1.2.2 k hk'
        have := (ho2.lt e2).1
        omega
    · rcases hcase with ⟨rfl, rfl, _⟩ | ⟨g', rfl, hg', _⟩
      · exact hd
      · refine .inr (fun g e e2 => ?_)
        cases e
        obtain ⟨cs2, ho2, _⟩ := h2'.1.2.2 i hi
        have := (ho2.lt e2).1
        omega
  · have := hb.size; omega

/-- The grown slice is put into the row. -/
theorem Ph2i.done {S : Lists} (hS : S.Good) {B2 : Nat} {w0 w w' : World} {i : Nat} {us : List (Option Addr × Nat × Nat)} {gv gv' : Value} {ga : Option Addr} {gc : Nat} (h : Ph2i S B2 w0 w i us gv ga gc 6) (hi : i < S.N) (hB : S.B ≤ w.heap.size) (hLb : S.Lb < B2) (hBB : S.B ≤ B2)
    (o : Obj) (hrow : w'.ownsRow B2 22 1 gv' (i + 1) (us.map sval ++ [.slice ga (S.L i + 6) gc])) (hg : (w.alloc o).grownBy w' gv.ownBlock) : Ph2 S B2 w0 w' (i + 1) (us ++ [(ga, S.L i + 6, gc)]) gv' := by
  obtain ⟨h2, ⟨cs, ho, hm, he⟩, hu, hA, hd⟩ := h
  have h2' := h2.alloc hS hB o
  have hrow0 := h2'.2.2.1
  have hkb : ∀ k, k < (w.alloc o).heap.size → (k < B2 ∨ ∃ cur, (w.alloc o).heap[k]? = some (.cells cur 5 (0, 0))) → w'.heap[k]? = (w.alloc o).heap[k]? := by
    intro k hk hx
    refine hg.block k hk (fun e => ?_)
    rcases hrow0.2 with ⟨e0, _⟩ | ⟨g, cap, cur, e0, hb, hh, _⟩
    · rw [e0] at e; cases e
    · rw [e0] at e
      simp only [Value.ownBlock, Option.some.injEq] at e
      subst e
      rcases hx with hx | ⟨cur', hx⟩
      · omega
      · rw [hh] at hx; simp at hx
  have hkO : ∀ {a : Option Addr} {n c : Nat} {xs : List Int}, Own S.B (w.alloc o) a n c xs → Own S.B w' a n c xs := by
    intro a n c xs hO
    exact hO.kept (fun g e => hkb g (hO.lt e).1 (.inr (hO.lt e).2.2))
  have ho' : Own S.B (w.alloc o) ga (S.L i + 6) gc cs := ho.kept (fun g e => Below.heap_alloc w _ g (ho.lt e).1)
  have hLlt : S.Lb < (w.alloc o).heap.size := (Array.getElem?_eq_some_iff.1 h2'.1.1).1
  refine ⟨⟨(hkb _ hLlt (.inl hLb)).trans h2'.1.1, h2'.1.2.1.trans ⟨hg.os, hg.tape, hg.output, hg.size, fun k hk => hkb k (by simp; omega) (.inl (by omega))⟩, fun p hp => ?_⟩, by simp [h2.2.1], by simpa [sval] using hrow, fun p t ht => ?_, ?_⟩
  · obtain ⟨cs', hO, hc⟩ := h2'.1.2.2 p hp
    exact ⟨cs', hkO hO, hc⟩
  · by_cases hp : p < us.length
    · rw [List.getElem?_append_left hp] at ht
      obtain ⟨h1, cs', hO, hc⟩ := h2'.2.2.2.1 p t ht
      exact ⟨h1, cs', hkO hO, hc⟩
    · have hul := h2.2.1
      rw [List.getElem?_append_right (by omega)] at ht
      have hpi : p = i := by
        have := (List.getElem?_eq_some_iff.1 ht).1
        simp at this; omega
      subst hpi
      rw [hul, Nat.sub_self] at ht
      simp at ht
      subst ht
      exact ⟨rfl, cs, hkO ho', he⟩
  · intro t ht k hk hkN g e
    rcases List.mem_append.1 ht with ht | ht
    · exact h2.2.2.2.2 t ht k (by omega) hkN g e
    · simp at ht
      subst ht
      intro e2
      exact hA k hkN (by omega) g e2 e

end Go.Proofs.Ytmdnkkmlgjpdcaa
