/- The contract of skerryref01.BytesApart. -/
import Derived.Test.YtknmgefpjdfenaaGBase
namespace Go.Proofs.Ytknmgefpjdfenaa
open Go.RowKit Go.Shelf
set_option linter.unusedVariables false
set_option maxRecDepth 100000

/-- A byte for a place. -/
def mk (n : Int) : Int := (n * 7 + n / 36 + 3) % 256

theorem mk_byte (n : Int) : 0 ≤ mk n ∧ mk n ≤ 255 := by unfold mk; omega

set_option maxRecDepth 100000 in
set_option maxHeartbeats 400000 in
theorem mark_any (n : Int) (w : World) (h0 : 0 ≤ n) (h1 : n ≤ 72057594037927936) : Calls Try.prog 31 #[.int .i64 n] w fun e w' => e = .returned (.int .u8 (mk n)) ∧ w = w' := by
  have e1 : wrap64 (n.tdiv 36) = n / 36 := by
    rw [Int.tdiv_eq_ediv_of_nonneg h0]; unfold wrap64; omega
  go_enter Try.func31, Try.ntmps31
  go_wp2
  go_ret
  refine ⟨ret_int ?_, rfl⟩
  unfold mk
  first | rw [IntKind.wrap_u8'] | rfl

/-- What BytesApart is handed: N slices of bytes, each at the start of a row of its own, and where they stand. -/
structure Lists where
  N : Nat
  B : Nat
  Lb : Nat
  ca : Array Value
  A : Nat → Option Addr
  L : Nat → Nat
  C : Nat → Nat
  off : Nat → Nat

/-- They are as they must be. -/
structure Lists.Good (S : Lists) : Prop where
  few : S.N ≤ 64
  size : S.ca.size = S.N
  at' : ∀ p, p < S.N → S.ca[p]? = some (.slice (S.A p) (S.L p) (S.C p))
  off0 : S.off 0 = 0
  offS : ∀ p, p < S.N → S.off (p + 1) = S.off p + S.L p
  fit : ∀ p, p < S.N → S.L p ≤ 140737488351232
  base : S.B ≤ S.Lb
  apart : ∀ p p', p < S.N → p' < S.N → p ≠ p' → ∀ g, S.A p = some ⟨g, 0, none⟩ → S.A p' ≠ some ⟨g, 0, none⟩

theorem Lists.Good.off_le {S : Lists} (h : S.Good) (p : Nat) (hp : p ≤ S.N) : S.off p ≤ p * 140737488351232 := by
  induction p with
  | zero => exact Nat.le_trans (Nat.le_of_eq h.off0) (Nat.zero_le _)
  | succ p ih => rw [h.offS p (by omega)]; have := h.fit p (by omega); have := ih (by omega); omega

theorem Lists.Good.off_bd {S : Lists} (h : S.Good) (p : Nat) (hp : p ≤ S.N) : S.off p ≤ 9007199254478848 := by
  have h1 := h.off_le p hp
  have h2 := h.few
  omega

/-- No row of numbers has turned. -/
def Stay (w0 w : World) : Prop := ∀ (k : Nat) (cs : Array Value), w0.heap[k]? = some (.cells cs 3 (0, 0)) → w.heap[k]? = some (.cells cs 3 (0, 0))

/-- Nothing below B, and no row of numbers, has turned. -/
def BI (B : Nat) (w0 w : World) : Prop := Below B w0 w ∧ Stay w0 w

theorem BI.refl (B : Nat) (w : World) : BI B w w := ⟨Below.refl _ _, fun _ _ h => h⟩
theorem BI.drew {B : Nat} {w0 w : World} (h : BI B w0 w) : BI B w0 w.drew := ⟨h.1.drew, h.2⟩
theorem BI.trans {B : Nat} {w0 w w' : World} (h : BI B w0 w) (hb : Below B w w') (hs : Stay w w') : BI B w0 w' := ⟨h.1.trans hb, fun k cs hk => hs k cs (h.2 k cs hk)⟩
theorem BI.setCell {B : Nat} {w0 w : World} (h : BI B w0 w) {g j : Nat} (hg : B ≤ g) (h5 : ∃ cur, w.heap[g]? = some (.cells cur 5 (0, 0))) (v : Value) : BI B w0 (w.setCell ⟨g, j, none⟩ v) := by
  refine h.trans ((Below.refl _ _).setCell (p := ⟨g, j, none⟩) hg _) fun k cs hk => ?_
  have hne : k ≠ g := by
    rintro rfl
    obtain ⟨cur, h5⟩ := h5
    rw [hk] at h5
    simp at h5
  exact (Below.heap_setCell _ _ _ _ hne).trans hk

/-- The list of slices stands where it stood; nothing below B has turned; each slice has bytes, those up to the place (i, j) marked. -/
def Ph1 (S : Lists) (w0 w : World) (i j : Nat) : Prop :=
  w.heap[S.Lb]? = some (.cells S.ca 22 (0, 0)) ∧ BI S.B w0 w ∧
    ∀ p, p < S.N → ∃ cs, Own S.B w (S.A p) (S.L p) (S.C p) cs ∧ ∀ q, q < S.L p → (p < i ∨ (p = i ∧ q < j)) → cs[q]?.getD 0 = mk ((S.off p + q : Nat) : Int)

theorem Ph1.ls {S : Lists} (hS : S.Good) {w0 w : World} {i j : Nat} (h : Ph1 S w0 w i j) {p : Nat} (hp : p < S.N) : w.cell? ⟨S.Lb, p, none⟩ = some (.slice (S.A p) (S.L p) (S.C p)) := by
  simp only [World.cell?, h.1]
  simpa using hS.at' p hp

theorem Ph1.drew {S : Lists} {w0 w : World} {i j : Nat} (h : Ph1 S w0 w i j) : Ph1 S w0 w.drew i j := ⟨h.1, h.2.1.drew, h.2.2⟩

theorem Ph1.next {S : Lists} {w0 w : World} {i : Nat} (h : Ph1 S w0 w i (S.L i)) : Ph1 S w0 w (i + 1) 0 := by
  refine ⟨h.1, h.2.1, fun p hp => ?_⟩
  obtain ⟨cs, ho, hc⟩ := h.2.2 p hp
  refine ⟨cs, ho, fun q hq hx => hc q hq ?_⟩
  by_cases e : p = i
  · subst e; exact .inr ⟨rfl, hq⟩
  · exact .inl (by omega)

theorem Ph1.store {S : Lists} (hS : S.Good) {w0 w : World} {i j : Nat} (h : Ph1 S w0 w i j) (hi : i < S.N) (hj : j < S.L i) :
    ∃ g v, S.A i = some ⟨g, 0, none⟩ ∧ w.cell? ⟨g, j, none⟩ = some v ∧ w.frozen? ⟨g, j, none⟩ = false ∧ Ph1 S w0 (w.setCell ⟨g, j, none⟩ (.int .u8 (mk ((S.off i + j : Nat) : Int)))) i (j + 1) := by
  obtain ⟨cs, ho, hc⟩ := h.2.2 i hi
  obtain ⟨g, e, hg, hcell, hfr⟩ := ho.cell hj
  refine ⟨g, _, e, hcell, hfr, ?_, h.2.1.setCell hg (ho.lt e).2.2 _, fun p hp => ?_⟩
  · have hne : S.Lb ≠ g := by
      rintro rfl
      rw [e] at ho
      obtain ⟨_, _, _, h4⟩ := ho
      rcases h4 with ⟨h4, _⟩ | ⟨g', cur, e', _, hh, _⟩
      · cases h4
      · cases e'
        rw [h.1] at hh
        simp at hh
    exact (Below.heap_setCell _ _ _ _ hne).trans h.1
  · by_cases hpi : p = i
    · subst hpi
      rw [e] at ho
      have hs := ho.set j (mk ((S.off p + j : Nat) : Int))
      rw [e]
      refine ⟨_, hs, fun q hq hx => ?_⟩
      have hl := ho.1
      by_cases hqj : q = j
      · subst hqj
        rw [List.getElem?_set_self (by omega)]; rfl
      · rw [List.getElem?_set_ne (by omega)]
        exact hc q hq (by omega)
    · obtain ⟨cs', ho', hc'⟩ := h.2.2 p hp
      refine ⟨cs', ho'.kept (fun g' e' => Below.heap_setCell _ _ _ _ ?_), fun q hq hx => hc' q hq (by omega)⟩
      rintro rfl
      exact hS.apart i p hi hp (by omega) _ e e'

/-- A slice as a value: its address, its length, its capacity. -/
def sval (t : Option Addr × Nat × Nat) : Value := .slice t.1 t.2.1 t.2.2

/-- The byte q of those that were appended to slice p. -/
def ext (S : Lists) (p q : Nat) : Int := mk ((S.off S.N + 6 * p + q : Nat) : Int)

/-- All slices are marked; the first i are grown, as us says, and stand in the row gv (from block B2 on); their rows are none of those of the slices to come. -/
def Ph2 (S : Lists) (B2 : Nat) (w0 w : World) (i : Nat) (us : List (Option Addr × Nat × Nat)) (gv : Value) : Prop :=
  Ph1 S w0 w S.N 0 ∧ us.length = i ∧ w.ownsRow B2 22 1 gv i (us.map sval) ∧
  (∀ p t, us[p]? = some t → t.2.1 = S.L p + 6 ∧ ∃ cs, Own S.B w t.1 t.2.1 t.2.2 cs ∧ ∀ q, q < 6 → cs[S.L p + q]?.getD 0 = ext S p q) ∧
  (∀ t ∈ us, ∀ k, i ≤ k → k < S.N → ∀ g, S.A k = some ⟨g, 0, none⟩ → t.1 ≠ some ⟨g, 0, none⟩)

/-- .. and slice i has been appended to j times: it is ga, gc now. -/
def Ph2i (S : Lists) (B2 : Nat) (w0 w : World) (i : Nat) (us : List (Option Addr × Nat × Nat)) (gv : Value) (ga : Option Addr) (gc j : Nat) : Prop :=
  Ph2 S B2 w0 w i us gv ∧
  (∃ cs, Own S.B w ga (S.L i + j) gc cs ∧ (∀ q, q < S.L i → cs[q]?.getD 0 = mk ((S.off i + q : Nat) : Int)) ∧ ∀ q, q < j → cs[S.L i + q]?.getD 0 = ext S i q) ∧
  (∀ t ∈ us, ∀ g, ga = some ⟨g, 0, none⟩ → t.1 ≠ some ⟨g, 0, none⟩) ∧
  (∀ k, k < S.N → k ≠ i → ∀ g, ga = some ⟨g, 0, none⟩ → S.A k ≠ some ⟨g, 0, none⟩) ∧
  ((ga = S.A i ∧ gc = S.C i) ∨ ∀ g, ga = some ⟨g, 0, none⟩ → S.A i ≠ some ⟨g, 0, none⟩)

/-- Ph2 where only the row of slice i may have turned, and it still holds its marks. -/
theorem Ph2.kept {S : Lists} {B2 : Nat} {w0 w w' : World} {i : Nat} {us : List (Option Addr × Nat × Nat)} {gv : Value} (hS : S.Good) (h : Ph2 S B2 w0 w i us gv) (ga : Option Addr) (hB : Below S.B w w')
    (h5 : ∀ g, ga = some ⟨g, 0, none⟩ → ∃ cur, w.heap[g]? = some (.cells cur 5 (0, 0)))
    (hk : ∀ k, k < w.heap.size → (∀ g, ga = some ⟨g, 0, none⟩ → k ≠ g) → w'.heap[k]? = w.heap[k]?)
    (hu : ∀ t ∈ us, ∀ g, ga = some ⟨g, 0, none⟩ → t.1 ≠ some ⟨g, 0, none⟩)
    (hA : ∀ k, k < S.N → k ≠ i → ∀ g, ga = some ⟨g, 0, none⟩ → S.A k ≠ some ⟨g, 0, none⟩)
    (hi : i < S.N → ∃ cs, Own S.B w' (S.A i) (S.L i) (S.C i) cs ∧ ∀ q, q < S.L i → cs[q]?.getD 0 = mk ((S.off i + q : Nat) : Int)) : Ph2 S B2 w0 w' i us gv := by
  obtain ⟨⟨hL, hBw, hown⟩, hul, hrow, hus, hfu⟩ := h
  have hty : ∀ (k : Nat) (cur : Array Value), w.heap[k]? = some (Obj.cells cur 22 (0, 0)) → w'.heap[k]? = w.heap[k]? := by
    intro k cur hh
    refine hk k (Array.getElem?_eq_some_iff.1 hh).1 (fun g e hkg => ?_)
    subst hkg
    obtain ⟨cur', h'⟩ := h5 _ e
    rw [hh] at h'; simp at h'
  have hstay : Stay w w' := by
    intro k cs hh
    refine (hk k (Array.getElem?_eq_some_iff.1 hh).1 (fun g e hkg => ?_)).trans hh
    subst hkg
    obtain ⟨cur', h'⟩ := h5 _ e
    rw [hh] at h'; simp at h'
  refine ⟨⟨(hty _ _ hL).trans hL, hBw.trans hB hstay, fun p hp => ?_⟩, hul, ownsRow_block hrow (fun g cur _ hh => hty g cur hh), fun p t ht => ?_, hfu⟩
  · by_cases hpi : p = i
    · subst hpi
      obtain ⟨cs, ho, hc⟩ := hi hp
      exact ⟨cs, ho, fun q hq _ => hc q hq⟩
    · obtain ⟨cs, ho, hc⟩ := hown p hp
      refine ⟨cs, ho.kept (fun g e => hk g (ho.lt e).1 (fun g' e' hgg => ?_)), hc⟩
      subst hgg
      exact hA p hp hpi _ e' e
  · obtain ⟨h1, cs, ho, hc⟩ := hus p t ht
    refine ⟨h1, cs, ho.kept (fun g e => hk g (ho.lt e).1 (fun g' e' hgg => ?_)), hc⟩
    subst hgg
    exact hu t (List.mem_of_getElem? ht) _ e' e

theorem Ph2.drewN {S : Lists} {B2 : Nat} {w0 w : World} {i : Nat} {us : List (Option Addr × Nat × Nat)} {gv : Value} (h : Ph2 S B2 w0 w i us gv) (n : Nat) : Ph2 S B2 w0 (w.drewN n) i us gv :=
  ⟨⟨h.1.1, h.1.2.1.trans (below_drewN (Below.refl _ _) n) (fun _ _ hk => hk), h.1.2.2⟩, h.2.1, h.2.2.1, h.2.2.2⟩

theorem Ph2.alloc {S : Lists} {B2 : Nat} {w0 w : World} {i : Nat} {us : List (Option Addr × Nat × Nat)} {gv : Value} (hS : S.Good) (h : Ph2 S B2 w0 w i us gv) (hB : S.B ≤ w.heap.size) (o : Obj) : Ph2 S B2 w0 (w.alloc o) i us gv := by
  refine h.kept hS none ((Below.refl _ w).alloc hB o) (fun g e => by cases e) (fun k hk _ => Below.heap_alloc w o k hk) (fun _ _ g e => by cases e) (fun _ _ _ g e => by cases e) (fun hi => ?_)
  obtain ⟨cs, ho, hc⟩ := h.1.2.2 i hi
  exact ⟨cs, ho.kept (fun g e => Below.heap_alloc w o g (ho.lt e).1), fun q hq => hc q hq (.inl hi)⟩

theorem Ph2.start {S : Lists} {w0 w : World} {B2 : Nat} (h : Ph1 S w0 w S.N 0) : Ph2 S B2 w0 w 0 [] (.slice none 0 0) :=
  ⟨h, rfl, World.ownsRow_nil w B2 22 1, by simp, by simp⟩

theorem Ph2i.start {S : Lists} (hS : S.Good) {B2 : Nat} {w0 w : World} {i : Nat} {us : List (Option Addr × Nat × Nat)} {gv : Value} (h : Ph2 S B2 w0 w i us gv) (hi : i < S.N) : Ph2i S B2 w0 w i us gv (S.A i) (S.C i) 0 := by
  obtain ⟨cs, ho, hc⟩ := h.1.2.2 i hi
  exact ⟨h, ⟨cs, ho, fun q hq => hc q hq (.inl hi), fun q hq => by omega⟩, fun t ht g e => h.2.2.2.2 t ht i (Nat.le_refl _) hi g e, fun k hk hki g e => hS.apart i k hi hk (by omega) g e, .inl ⟨rfl, rfl⟩⟩

/-- One append. -/
theorem Ph2i.step {S : Lists} (hS : S.Good) {B2 : Nat} {w0 w : World} {i : Nat} {us : List (Option Addr × Nat × Nat)} {gv : Value} {ga : Option Addr} {gc j : Nat} (h : Ph2i S B2 w0 w i us gv ga gc j) (hi : i < S.N) (hj : j < 6) (hB : S.B ≤ w.heap.size) :
    ∃ a' c' w', (∀ ty, (Builtin.append_ #[22, 22] ty #[.slice ga (S.L i + j) gc, .slice (some ⟨w.heap.size, 0, none⟩) 1 1]).run Try.prog (w.alloc (.cells #[.int .u8 (ext S i j)] 5)) = .ok (.slice a' (S.L i + j + 1) c') w') ∧
      Ph2i S B2 w0 w' i us gv a' c' (j + 1) ∧ w.heap.size ≤ w'.heap.size := by
  obtain ⟨h2, ⟨cs, ho, hm, he⟩, hu, hA, hd⟩ := h
  obtain ⟨z, hz⟩ : ∃ z, ext S i j = z := ⟨_, rfl⟩
  have hfit := hS.fit i hi
  have h2' := h2.alloc hS hB (.cells #[.int .u8 (ext S i j)] 5)
  have ho' : Own S.B (w.alloc (.cells #[.int .u8 (ext S i j)] 5)) ga (S.L i + j) gc cs := ho.kept (fun g e => Below.heap_alloc w _ g (ho.lt e).1)
  have hnew : (w.alloc (.cells #[.int .u8 (ext S i j)] 5)).cell? ⟨w.heap.size, 0, none⟩ = some (.int .u8 (ext S i j)) := (Boxed.new w 5 (.int .u8 (ext S i j))).cell
  obtain ⟨w1, hw1⟩ : ∃ w1, w.alloc (.cells #[.int .u8 (ext S i j)] 5) = w1 := ⟨_, rfl⟩
  have hsz : w1.heap.size = w.heap.size + 1 := by rw [← hw1]; simp
  rw [hw1] at h2' ho' hnew ⊢
  -- the type's number is not used by the run
  have hall := fun ty => run_append_byte S.B w1 ty ga (S.L i + j) gc cs ho' (by omega) w.heap.size (ext S i j) hnew (by omega)
  obtain ⟨a', c', w', hr, hown, hk, hb, hcase⟩ := hall 0
  refine ⟨a', c', w', fun ty => ?_, ?_, ?_⟩
  · have hty : (Builtin.append_ #[22, 22] ty #[.slice ga (S.L i + j) gc, .slice (some ⟨w.heap.size, 0, none⟩) 1 1]) = (Builtin.append_ #[22, 22] 0 #[.slice ga (S.L i + j) gc, .slice (some ⟨w.heap.size, 0, none⟩) 1 1]) := rfl
    rw [hty]; exact hr
  · have hmark : ∀ q, q < S.L i → (cs ++ [ext S i j])[q]?.getD 0 = mk ((S.off i + q : Nat) : Int) := by
      intro q hq
      have := ho.1
      rw [List.getElem?_append_left (by omega)]; exact hm q hq
    have hextra : ∀ q, q < j + 1 → (cs ++ [ext S i j])[S.L i + q]?.getD 0 = ext S i q := by
      intro q hq
      have hl := ho.1
      by_cases hqj : q = j
      · subst hqj
        rw [List.getElem?_append_right (by omega), hl, Nat.sub_self]; rfl
      · rw [List.getElem?_append_left (by omega)]; exact he q (by omega)
    have hAi : i < S.N → ∃ cs, Own S.B w' (S.A i) (S.L i) (S.C i) cs ∧ ∀ q, q < S.L i → cs[q]?.getD 0 = mk ((S.off i + q : Nat) : Int) := by
      intro _
      rcases hcase with ⟨rfl, rfl, hpre⟩ | ⟨g', rfl, hg', hsame⟩
      · rcases hd with ⟨e1, e2⟩ | hd
        · rw [← e1, ← e2]
          refine ⟨_, hpre (S.L i) (by omega), fun q hq => ?_⟩
          rw [List.getElem?_take_of_lt hq]; exact hm q hq
        · obtain ⟨cs', hoA, hcA⟩ := h2'.1.2.2 i hi
          refine ⟨cs', hoA.kept (fun g e => hk g (hoA.lt e).1 (fun g2 e2 hgg => ?_)), fun q hq => hcA q hq (.inl hi)⟩
          subst hgg
          exact hd _ e2 e
      · obtain ⟨cs', hoA, hcA⟩ := h2'.1.2.2 i hi
        exact ⟨cs', hoA.kept (fun g e => hsame g (hoA.lt e).1), fun q hq => hcA q hq (.inl hi)⟩
    have h2'' := h2'.kept hS ga hb (fun g e => (ho'.lt e).2.2) hk hu hA hAi
    refine ⟨h2'', ⟨cs ++ [ext S i j], hown, hmark, hextra⟩, ?_, ?_, ?_⟩
    · rcases hcase with ⟨rfl, rfl, _⟩ | ⟨g', rfl, hg', _⟩
      · exact hu
      · intro t ht g e e2
        cases e
        obtain ⟨p, hp⟩ := List.getElem?_of_mem ht
        obtain ⟨_, cs2, ho2, _⟩ := h2'.2.2.2.1 p t hp
        have := (ho2.lt e2).1
        omega
    · rcases hcase with ⟨rfl, rfl, _⟩ | ⟨g', rfl, hg', _⟩
      · exact hA
      · intro k hk' hki g e e2
        cases e
        obtain ⟨cs2, ho2, _⟩ := h2'.1.2.2 k hk'
        have := (ho2.lt e2).1
        omega
    · rcases hcase with ⟨rfl, rfl, _⟩ | ⟨g', rfl, hg', _⟩
      · exact hd
      · refine .inr (fun g e e2 => ?_)
        cases e
        obtain ⟨cs2, ho2, _⟩ := h2'.1.2.2 i hi
        have := (ho2.lt e2).1
        omega
  · have := hb.size; omega

/-- The grown slice is put into the row. -/
theorem Ph2i.done {S : Lists} (hS : S.Good) {B2 : Nat} {w0 w w' : World} {i : Nat} {us : List (Option Addr × Nat × Nat)} {gv gv' : Value} {ga : Option Addr} {gc : Nat} (h : Ph2i S B2 w0 w i us gv ga gc 6) (hi : i < S.N) (hB : S.B ≤ w.heap.size) (hLb : S.Lb < B2) (hBB : S.B ≤ B2)
    (o : Obj) (hrow : w'.ownsRow B2 22 1 gv' (i + 1) (us.map sval ++ [.slice ga (S.L i + 6) gc])) (hg : (w.alloc o).grownBy w' gv.ownBlock) : Ph2 S B2 w0 w' (i + 1) (us ++ [(ga, S.L i + 6, gc)]) gv' := by
  obtain ⟨h2, ⟨cs, ho, hm, he⟩, hu, hA, hd⟩ := h
  have h2' := h2.alloc hS hB o
  have hrow0 := h2'.2.2.1
  have hkb : ∀ k, k < (w.alloc o).heap.size → (k < B2 ∨ ∃ cur, (w.alloc o).heap[k]? = some (.cells cur 5 (0, 0))) → w'.heap[k]? = (w.alloc o).heap[k]? := by
    intro k hk hx
    refine hg.block k hk (fun e => ?_)
    rcases hrow0.2 with ⟨e0, _⟩ | ⟨g, cap, cur, e0, hb, hh, _⟩
    · rw [e0] at e; cases e
    · rw [e0] at e
      simp only [Value.ownBlock, Option.some.injEq] at e
      subst e
      rcases hx with hx | ⟨cur', hx⟩
      · omega
      · rw [hh] at hx; simp at hx
  have hstay : Stay (w.alloc o) w' := by
    intro k cs hh
    refine (hg.block k (Array.getElem?_eq_some_iff.1 hh).1 (fun e => ?_)).trans hh
    rcases hrow0.2 with ⟨e0, _⟩ | ⟨g, cap, cur, e0, hb, hh', _⟩
    · rw [e0] at e; cases e
    · rw [e0] at e
      simp only [Value.ownBlock, Option.some.injEq] at e
      subst e
      rw [hh] at hh'; simp at hh'
  have hkO : ∀ {a : Option Addr} {n c : Nat} {xs : List Int}, Own S.B (w.alloc o) a n c xs → Own S.B w' a n c xs := by
    intro a n c xs hO
    exact hO.kept (fun g e => hkb g (hO.lt e).1 (.inr (hO.lt e).2.2))
  have ho' : Own S.B (w.alloc o) ga (S.L i + 6) gc cs := ho.kept (fun g e => Below.heap_alloc w _ g (ho.lt e).1)
  have hLlt : S.Lb < (w.alloc o).heap.size := (Array.getElem?_eq_some_iff.1 h2'.1.1).1
  refine ⟨⟨(hkb _ hLlt (.inl hLb)).trans h2'.1.1, h2'.1.2.1.trans ⟨hg.os, hg.tape, hg.output, hg.size, fun k hk => hkb k (by simp; omega) (.inl (by omega))⟩ hstay, fun p hp => ?_⟩, by simp [h2.2.1], by simpa [sval] using hrow, fun p t ht => ?_, ?_⟩
  · obtain ⟨cs', hO, hc⟩ := h2'.1.2.2 p hp
    exact ⟨cs', hkO hO, hc⟩
  · by_cases hp : p < us.length
    · rw [List.getElem?_append_left hp] at ht
      obtain ⟨h1, cs', hO, hc⟩ := h2'.2.2.2.1 p t ht
      exact ⟨h1, cs', hkO hO, hc⟩
    · have hul := h2.2.1
      rw [List.getElem?_append_right (by omega)] at ht
      have hpi : p = i := by
        have := (List.getElem?_eq_some_iff.1 ht).1
        simp at this; omega
      subst hpi
      rw [hul, Nat.sub_self] at ht
      simp at ht
      subst ht
      exact ⟨rfl, cs, hkO ho', he⟩
  · intro t ht k hk hkN g e
    rcases List.mem_append.1 ht with ht | ht
    · exact h2.2.2.2.2 t ht k (by omega) hkN g e
    · simp at ht
      subst ht
      intro e2
      exact hA k hkN (by omega) g e2 e

theorem mark_same (n : Int) (w : World) (h0 : 0 ≤ n) (h1 : n ≤ 72057594037927936) : Calls Try.prog 31 #[.int .i64 n] w fun e w' => e = .returned (.int .u8 (mk n)) ∧ w' = w :=
  (mark_any n w h0 h1).mono fun e w' ⟨he, hw⟩ => ⟨he, hw.symm⟩

theorem Ph2.shape {S : Lists} {B2 : Nat} {w0 w : World} {i : Nat} {us : List (Option Addr × Nat × Nat)} {gv : Value} (h : Ph2 S B2 w0 w i us gv) : ∃ a c, gv = .slice a i c := by
  rcases h.2.2.1.2 with ⟨e, e0⟩ | ⟨g, cap, cur, e, _⟩
  · exact ⟨none, 0, by rw [e, e0]⟩
  · exact ⟨_, cap, e⟩

theorem Ph2.byte {S : Lists} {B2 : Nat} {w0 w : World} {i : Nat} {us : List (Option Addr × Nat × Nat)} {gv : Value} (h : Ph2 S B2 w0 w i us gv) {k q : Nat} (hk : k < S.N) (hq : q < S.L k) :
    ∃ g, S.A k = some ⟨g, 0, none⟩ ∧ w.cell? ⟨g, q, none⟩ = some (.int .u8 (mk ((S.off k + q : Nat) : Int))) := by
  obtain ⟨cs, ho, hc⟩ := h.1.2.2 k hk
  obtain ⟨g, e, _, hcell, _⟩ := ho.cell hq
  rw [hc q hq (.inl hk)] at hcell
  exact ⟨g, e, hcell⟩

theorem Ph2.grown {S : Lists} {B2 : Nat} {w0 w : World} {i c : Nat} {us : List (Option Addr × Nat × Nat)} {a : Option Addr} (h : Ph2 S B2 w0 w i us (.slice a i c)) {k : Nat} (hk : k < i) :
    ∃ gb ua uc, a = some ⟨gb, 0, none⟩ ∧ w.cell? ⟨gb, k, none⟩ = some (.slice ua (S.L k + 6) uc) ∧ ∀ q, q < 6 → ∃ g, ua = some ⟨g, 0, none⟩ ∧ w.cell? ⟨g, S.L k + q, none⟩ = some (.int .u8 (ext S k q)) := by
  have hul := h.2.1
  obtain ⟨t, ht⟩ : ∃ t, us[k]? = some t := ⟨us[k], List.getElem?_eq_getElem (by omega)⟩
  obtain ⟨h1, cs, ho, hc⟩ := h.2.2.2.1 k t ht
  rcases h.2.2.1.2 with ⟨e, e0⟩ | ⟨g, cap, cur, e, _, hh, _, _, _, htk⟩
  · omega
  · cases e
    refine ⟨g, t.1, t.2.2, rfl, ?_, fun q hq => ?_⟩
    · have hx : (cur.toList.take (i * 1))[k]? = some (sval t) := by rw [htk, List.getElem?_map, ht]; rfl
      rw [List.getElem?_take_of_lt (by omega)] at hx
      simp only [World.cell?, hh]
      rw [← h1]
      simpa [sval] using hx
    · obtain ⟨g', e', _, hcell, _⟩ := ho.cell (j := S.L k + q) (by omega)
      rw [hc q hq] at hcell
      exact ⟨g', e', hcell⟩

set_option maxRecDepth 100000 in
set_option maxHeartbeats 4000000 in
theorem apart_any (N Lb : Nat) (S : Lists) (hS : S.Good) (w : World) (hN : S.N = N) (hLb : S.Lb = Lb) (h0 : Ph1 S w w 0 0) (hB : S.B ≤ w.heap.size) :
    Calls Try.prog 14 #[.slice (some ⟨Lb, 0, none⟩) N N] w fun e w' => e = .returned (.bool true) ∧ BI S.B w w' := by
  have HS := hide hS
  have H0 := hide h0
  have hNb : N ≤ 64 := by rw [← hN]; exact hS.few
  have HN := hide hN
  have HL := hide hLb
  have HO0 := hide hS.off0
  clear hS h0 hN hLb
  go_enter Try.func14, Try.ntmps14
  go_wp2
  go_loopw [3, 4] (fun n i wr => ∃ p o : Nat, p ≤ N ∧ i = .int .i64 p ∧ n = .int .i64 o ∧ Hid (o = S.off p) ∧ Hid (Ph1 S w wr p 0)) (fun _ i _ => N - (intOf i).toNat)
  case atStart => exact ⟨0, 0, Nat.zero_le _, rfl, rfl, (unhide HO0).symm, H0⟩
  case round =>
    obtain ⟨p, o, hp, rfl, rfl, ho, hPh⟩ := hrel
    by_cases hlt : p < N
    · have hSg := unhide HS
      obtain ⟨A, hA⟩ : ∃ A, S.A p = A := ⟨_, rfl⟩
      obtain ⟨L, hL⟩ : ∃ L, S.L p = L := ⟨_, rfl⟩
      obtain ⟨C, hC⟩ : ∃ C, S.C p = C := ⟨_, rfl⟩
      have hob := hSg.off_bd p (by rw [unhide HN]; omega)
      rw [← ho.out] at hob
      have hLb : L ≤ 140737488351232 := by rw [← hL]; exact hSg.fit p (by rw [unhide HN]; exact hlt)
      have HA := hide hA
      have HLL := hide hL
      have HC := hide hC
      clear hA hL hC hSg
      go_wp2
      go_loopw [3, 5] (fun n j wr => ∃ q : Nat, q ≤ L ∧ j = .int .i64 q ∧ n = .int .i64 ((o + q : Nat) : Int) ∧ Hid (Ph1 S w wr p q)) (fun _ j _ => L - (intOf j).toNat)
      case atStart => exact ⟨0, Nat.zero_le _, rfl, rfl, hPh⟩
      case round =>
        obtain ⟨q, hq, rfl, rfl, hPh2⟩ := hrel
        have hls : wr.cell? ⟨Lb, p, none⟩ = some (.slice A L C) := by
          have := (unhide hPh2).ls (unhide HS) (p := p) (by rw [unhide HN]; exact hlt)
          rwa [unhide HL, unhide HA, unhide HLL, unhide HC] at this
        by_cases hlt2 : q < L
        · obtain ⟨g, v, eA, hcell, hfr, hPh3⟩ := (unhide hPh2).store (unhide HS) (by rw [unhide HN]; exact hlt) (by rw [unhide HLL]; exact hlt2)
          rw [unhide HA] at eA
          subst eA
          rw [← ho.out] at hPh3
          have HPh3 := hide hPh3
          clear hPh3
          have hltI : (q : Int) < (L : Int) := by omega
          go_wp2
          go_region_with (go_at_call 31; refine (mark_any _ _ (by omega) (by omega)).mono ?_; rintro e w' ⟨rfl, rfl⟩)
          all_goals go_wp2
          all_goals exact ⟨⟨q + 1, by omega, by go_num, by go_num, (by have h := unhide HPh3; rw [Int.natCast_add] at h; exact h.drew)⟩, by simp [intOf]; omega⟩
        · obtain rfl : q = L := by omega
          go_wp2
          exact ⟨⟨p + 1, o + q, by omega, by go_num, rfl, by show o + q = S.off (p + 1); rw [(unhide HS).offS p (by rw [unhide HN]; exact hlt), unhide HLL, ho.out], by have h := unhide hPh2; rw [← unhide HLL] at h; exact h.next⟩, by simp [intOf]; omega⟩
    · obtain rfl : p = N := by omega
      have hPhN := unhide hPh
      rw [← unhide HN] at hPhN
      have HPN := hide hPhN
      obtain ⟨B2, hB2⟩ : ∃ B2, wr.heap.size = B2 := ⟨_, rfl⟩
      have HB2 := hide hB2
      have HLt : Hid (S.Lb < B2 ∧ S.B ≤ B2) := by
        refine ⟨?_, ?_⟩
        · rw [← hB2]; exact (Array.getElem?_eq_some_iff.1 hPhN.1).1
        · rw [← hB2]; exact Nat.le_trans hB hPhN.2.1.1.size
      have hob := (unhide HS).off_bd p (by rw [unhide HN]; omega)
      rw [← ho.out] at hob
      obtain ⟨i22, hi, hz0, hz1, hz2⟩ := info_parts info22
      have HI := hide (⟨hi, hz0, hz1, hz2⟩ : Try.prog.info? 22 = some i22 ∧ i22.zero = some (.slice none 0 0) ∧ i22.size = 1 ∧ i22.bytes = 24)
      have HST : Hid (Ph2 S B2 w wr 0 [] (.slice none 0 0)) := Ph2.start hPhN
      clear hi hz0 hz1 hz2 hB2 hPh hPhN HPN H0 hlt
      go_wp2
      go_loopw [6, 7, 8] (fun gr kk i wr => ∃ (m : Nat) (us : List (Option Addr × Nat × Nat)), m ≤ p ∧ i = .int .i64 m ∧ kk = .int .i64 ((o + 6 * m : Nat) : Int) ∧ Hid (Ph2 S B2 w wr m us gr) ∧ Hid (B2 ≤ wr.heap.size)) (fun _ _ i _ => p - (intOf i).toNat)
      case atStart => exact ⟨0, [], Nat.zero_le _, rfl, rfl, HST, Nat.le_of_eq (unhide HB2).symm⟩
      case round =>
        obtain ⟨m, us, hm, rfl, rfl, hPh2, hsz⟩ := hrel
        clear HB2 HST
        by_cases hlt : m < p
        · obtain ⟨A, hA⟩ : ∃ A, S.A m = A := ⟨_, rfl⟩
          obtain ⟨L, hL⟩ : ∃ L, S.L m = L := ⟨_, rfl⟩
          obtain ⟨C, hC⟩ : ∃ C, S.C m = C := ⟨_, rfl⟩
          have hls : wr.cell? ⟨Lb, m, none⟩ = some (.slice A L C) := by
            have := (unhide hPh2).1.ls (unhide HS) (p := m) (by rw [unhide HN]; exact hlt)
            rwa [unhide HL, hA, hL, hC] at this
          have hLb : L ≤ 140737488351232 := by rw [← hL]; exact (unhide HS).fit m (by rw [unhide HN]; exact hlt)
          have HLL := hide hL
          have HI0 : Hid (Ph2i S B2 w wr m us u6 A C 0) := by
            have := Ph2i.start (unhide HS) (unhide hPh2) (by rw [unhide HN]; exact hlt)
            rwa [hA, hC] at this
          clear hA hL hC
          go_wp2
          go_loopw [7, 9, 10] (fun kk g j wr => ∃ (q : Nat) (ga : Option Addr) (gc : Nat), q ≤ 6 ∧ j = .int .i64 q ∧ kk = .int .i64 ((o + 6 * m + q : Nat) : Int) ∧ g = .slice ga (L + q) gc ∧ Hid (Ph2i S B2 w wr m us u6 ga gc q) ∧ Hid (B2 ≤ wr.heap.size)) (fun _ _ j _ => 6 - (intOf j).toNat)
          case atStart => exact ⟨0, A, C, by omega, rfl, rfl, rfl, HI0, hsz⟩
          case round =>
            obtain ⟨q, ga, gc, hq, rfl, rfl, rfl, hPi, hsz2⟩ := hrel
            by_cases hlt2 : q < 6
            · obtain ⟨z, hz⟩ : ∃ z, ext S m q = z := ⟨_, rfl⟩
              have hzz : mk ((o : Int) + 6 * (m : Int) + (q : Int)) = z := by
                rw [← hz]
                unfold ext
                rw [unhide HN, ← ho.out]
                congr 1 <;> omega
              obtain ⟨a', c', w', hrun, hPi', hsz3⟩ := (unhide hPi).step (unhide HS) (by rw [unhide HN]; exact hlt) hlt2 (Nat.le_trans (unhide HLt).2 hsz2.out)
              rw [hz, unhide HLL] at hrun
              have HR := hide hrun
              have HP' := hide hPi'
              have HZ3 : Hid (B2 ≤ w'.heap.size) := Nat.le_trans hsz2.out hsz3
              clear hrun hPi' hz hsz3
              go_wp2_with (first
                | (go_at_call 31; refine (mark_any _ _ (by omega) (by omega)).mono ?_; rintro e w6 ⟨rfl, rfl⟩; rw [hzz])
                | (at_builtin; refine wpList_append_run 22 rfl _ _ rfl _ _ _ rfl rfl (unhide HR) ?_))
              exact ⟨⟨q + 1, a', c', by omega, by go_num, by go_num, rfl, HP', HZ3⟩, by simp [intOf]; omega⟩
            · obtain rfl : q = 6 := by omega
              have hrw := (unhide hPi).1.2.2.1
              have HRW : Hid ((wr.alloc (.cells #[.slice ga (L + 6) gc] 22)).ownsRow B2 22 1 u6 m (us.map sval)) := hrw.alloc _
              have HNW : Hid (∀ (j : Nat) (u : Value), [Value.slice ga (L + 6) gc][j]? = some u → (wr.alloc (.cells #[.slice ga (L + 6) gc] 22)).cell? ((⟨wr.heap.size, 0, none⟩ : Addr).add j) = some u) := by
                intro j u hj
                cases j with
                | zero => simp at hj; subst hj; rw [World.add_zero_spot]; exact (Boxed.new wr 22 _).cell
                | succ j => simp at hj
              have HM : Hid (m + 1 ≤ maxLen ∧ (m + 1) * 24 ≤ 140737488355328) := ⟨by unfold maxLen; omega, by omega⟩
              have HBs : Hid (B2 ≤ (wr.alloc (.cells #[.slice ga (L + 6) gc] 22)).heap.size) := Nat.le_trans hsz2.out (by simp)
              have HOC : Hid (∀ u ∈ [Value.slice ga (L + 6) gc], u.oneCell' = true) := by intro u hu; simp at hu; subst hu; rfl
              clear hrw
              go_wp2_with (at_builtin; refine wpList_append_own _ rfl _ _ 41 rfl B2 22 i22 (.slice none 0 0) 1 24 Try.underlying41 (unhide HI).1 (unhide HI).2.1 (unhide HI).2.2.1 (unhide HI).2.2.2 rfl (by decide) u6 m (us.map sval) rfl (unhide HRW) ⟨wr.heap.size, 0, none⟩ 1 1 [.slice ga (L + 6) gc] rfl rfl (unhide HNW) (unhide HOC) (unhide HM).1 (unhide HM).2 (unhide HBs) ?_; intro gv' w5 hrow hgrow _)
              refine ⟨⟨m + 1, us ++ [(ga, S.L m + 6, gc)], by omega, by go_num, by go_num, ?_, Nat.le_trans (unhide HBs) hgrow.size⟩, by simp [intOf]; omega⟩
              rw [← unhide HLL] at hrow
              exact (unhide hPi).done (unhide HS) (by rw [unhide HN]; exact hlt) (Nat.le_trans (unhide HLt).2 hsz2.out) (unhide HLt).1 (unhide HLt).2 _ hrow hgrow
        · obtain rfl : m = p := by omega
          obtain ⟨gva, gvc, rfl⟩ := (unhide hPh2).shape
          clear HLt HI hsz hlt
          go_wp2
          go_loopw [3, 11] (fun n i wr => ∃ k oo : Nat, k ≤ m ∧ i = .int .i64 k ∧ n = .int .i64 oo ∧ Hid (oo = S.off k) ∧ Hid (Ph2 S B2 w wr m us (.slice gva m gvc))) (fun _ i _ => m - (intOf i).toNat)
          case atStart => exact ⟨0, 0, Nat.zero_le _, rfl, rfl, (unhide HO0).symm, hPh2⟩
          case round =>
            obtain ⟨k, oo, hk, rfl, rfl, hoo, hP3⟩ := hrel
            clear hPh2
            by_cases hlt : k < m
            · obtain ⟨A, hA⟩ : ∃ A, S.A k = A := ⟨_, rfl⟩
              obtain ⟨L, hL⟩ : ∃ L, S.L k = L := ⟨_, rfl⟩
              obtain ⟨C, hC⟩ : ∃ C, S.C k = C := ⟨_, rfl⟩
              have hLb : L ≤ 140737488351232 := by rw [← hL]; exact (unhide HS).fit k (by rw [unhide HN]; exact hlt)
              have hob2 := (unhide HS).off_bd k (by rw [unhide HN]; omega)
              rw [← hoo.out] at hob2
              have HA := hide hA
              have HLL := hide hL
              have HC := hide hC
              clear hA hL hC
              go_wp2
              go_loopw [3, 12] (fun n j wr => ∃ q : Nat, q ≤ L ∧ j = .int .i64 q ∧ n = .int .i64 ((oo + q : Nat) : Int) ∧ Hid (Ph2 S B2 w wr m us (.slice gva m gvc))) (fun _ j _ => L - (intOf j).toNat)
              case atStart => exact ⟨0, Nat.zero_le _, rfl, rfl, hP3⟩
              case round =>
                obtain ⟨q, hq, rfl, rfl, hP4⟩ := hrel
                clear hP3
                have hls : wr.cell? ⟨Lb, k, none⟩ = some (.slice A L C) := by
                  have := (unhide hP4).1.ls (unhide HS) (p := k) (by rw [unhide HN]; exact hlt)
                  rwa [unhide HL, unhide HA, unhide HLL, unhide HC] at this
                by_cases hlt2 : q < L
                · obtain ⟨g, eA, hcell⟩ := (unhide hP4).byte (k := k) (q := q) (by rw [unhide HN]; exact hlt) (by rw [unhide HLL]; exact hlt2)
                  rw [unhide HA] at eA
                  subst eA
                  rw [← hoo.out, Int.natCast_add] at hcell
                  have hltI : (q : Int) < (L : Int) := by omega
                  have hltK : (k : Int) < (m : Int) := by omega
                  go_wp2
                  go_quiet ((go_at_call 31; exact Calls.quiet_of_same (mark_same _ _ (by omega) (by omega))))
                  go_wp2
                  exact ⟨⟨q + 1, by omega, by go_num, by go_num, (unhide hP4).drewN _⟩, by simp [intOf]; omega⟩
                · obtain rfl : q = L := by omega
                  go_wp2
                  exact ⟨⟨k + 1, oo + q, by omega, by go_num, rfl, by show oo + q = S.off (k + 1); rw [(unhide HS).offS k (by rw [unhide HN]; exact hlt), unhide HLL, hoo.out], hP4⟩, by simp [intOf]; omega⟩
            · obtain rfl : k = m := by omega
              have hoe : oo = o := by rw [hoo.out, ho.out]
              subst hoe
              clear hoo hlt
              go_wp2
              go_loopw [3, 13] (fun n i wr => ∃ m : Nat, m ≤ k ∧ i = .int .i64 m ∧ n = .int .i64 ((oo + 6 * m : Nat) : Int) ∧ Hid (Ph2 S B2 w wr k us (.slice gva k gvc))) (fun _ i _ => k - (intOf i).toNat)
              case atStart => exact ⟨0, Nat.zero_le _, rfl, rfl, hP3⟩
              case round =>
                obtain ⟨m, hm4, rfl, rfl, hP5⟩ := hrel
                clear hP3
                by_cases hlt : m < k
                · obtain ⟨A, hA⟩ : ∃ A, S.A m = A := ⟨_, rfl⟩
                  obtain ⟨L, hL⟩ : ∃ L, S.L m = L := ⟨_, rfl⟩
                  obtain ⟨C, hC⟩ : ∃ C, S.C m = C := ⟨_, rfl⟩
                  have hLb : L ≤ 140737488351232 := by rw [← hL]; exact (unhide HS).fit m (by rw [unhide HN]; exact hlt)
                  have hls : wr.cell? ⟨Lb, m, none⟩ = some (.slice A L C) := by
                    have := (unhide hP5).1.ls (unhide HS) (p := m) (by rw [unhide HN]; exact hlt)
                    rwa [unhide HL, hA, hL, hC] at this
                  have HLL := hide hL
                  clear hA hL hC
                  go_wp2
                  go_loopw [3, 14] (fun n j wr => ∃ q : Nat, q ≤ 6 ∧ j = .int .i64 ((L + q : Nat) : Int) ∧ n = .int .i64 ((oo + 6 * m + q : Nat) : Int) ∧ Hid (Ph2 S B2 w wr k us (.slice gva k gvc))) (fun _ j _ => L + 6 - (intOf j).toNat)
                  case atStart => exact ⟨0, by omega, rfl, rfl, hP5⟩
                  case round =>
                    obtain ⟨q, hq, rfl, rfl, hP6⟩ := hrel
                    clear hP5 hls
                    obtain ⟨gb, ua, uc, e, hgc, hgx⟩ := (unhide hP6).grown hlt
                    subst e
                    rw [unhide HLL] at hgc
                    have HGX := hide hgx
                    clear hgx
                    have hltK : (m : Int) < (k : Int) := by omega
                    by_cases hlt2 : q < 6
                    · obtain ⟨g, e2, hcell⟩ := unhide HGX q hlt2
                      subst e2
                      have hext : ext S m q = mk ((oo : Int) + 6 * (m : Int) + (q : Int)) := by
                        unfold ext
                        rw [unhide HN, ← ho.out]
                        congr 1 <;> omega
                      rw [unhide HLL, hext] at hcell
                      clear hext HGX
                      have hltI : ((L + q : Nat) : Int) < ((L + 6 : Nat) : Int) := by omega
                      go_wp2
                      go_quiet ((go_at_call 31; exact Calls.quiet_of_same (mark_same _ _ (by omega) (by omega))))
                      go_wp2
                      exact ⟨⟨q + 1, by omega, by go_num, by go_num, (unhide hP6).drewN _⟩, by simp [intOf]; omega⟩
                    · obtain rfl : q = 6 := by omega
                      clear HGX
                      go_wp2
                      exact ⟨⟨m + 1, by omega, by go_num, by go_num, hP6⟩, by simp [intOf]; omega⟩
                · obtain rfl : m = k := by omega
                  go_wp2
                  go_ret
                  exact ⟨rfl, (unhide hP5).1.2.1⟩

abbrev Trip := Option Addr × Nat × Nat

def tripAt (ts : List Trip) (p : Nat) : Trip := ts[p]?.getD (none, 0, 0)

def sumTo (ts : List Trip) : Nat → Nat
  | 0 => 0
  | p + 1 => sumTo ts p + (tripAt ts p).2.1

def listsOf (B Lb : Nat) (ts : List Trip) : Lists :=
  { N := ts.length, B := B, Lb := Lb, ca := (ts.map sval).toArray, A := fun p => (tripAt ts p).1, L := fun p => (tripAt ts p).2.1, C := fun p => (tripAt ts p).2.2, off := sumTo ts }

/-- Two slices have rows of their own. -/
def Aside (t u : Trip) : Prop := ∀ g, t.1 = some ⟨g, 0, none⟩ → u.1 ≠ some ⟨g, 0, none⟩

theorem tripAt_eq {ts : List Trip} {p : Nat} (h : p < ts.length) : tripAt ts p = ts[p] := by simp [tripAt, List.getElem?_eq_getElem h]

theorem listsOf_good {B Lb : Nat} {ts : List Trip} (h1 : ts.length ≤ 64) (h2 : ∀ t ∈ ts, t.2.1 ≤ 140737488351232) (h3 : B ≤ Lb) (h4 : ts.Pairwise Aside) : (listsOf B Lb ts).Good where
  few := h1
  size := by simp [listsOf]
  at' := fun p hp => by
    have hp' : p < ts.length := hp
    simp [listsOf, tripAt, List.getElem?_eq_getElem hp', sval]
  off0 := rfl
  offS := fun p hp => rfl
  fit := fun p hp => by
    have hp' : p < ts.length := hp
    show (tripAt ts p).2.1 ≤ _
    rw [tripAt_eq hp']; exact h2 _ (List.getElem_mem hp')
  base := h3
  apart := fun p p' hp hp' hne g e e' => by
    have hq : p < ts.length := hp
    have hq' : p' < ts.length := hp'
    have k1 : (tripAt ts p).1 = some ⟨g, 0, none⟩ := e
    have k2 : (tripAt ts p').1 = some ⟨g, 0, none⟩ := e'
    rw [tripAt_eq hq] at k1
    rw [tripAt_eq hq'] at k2
    rcases Nat.lt_or_ge p p' with hlt | hge
    · exact List.pairwise_iff_getElem.1 h4 p p' hq hq' hlt g k1 k2
    · exact List.pairwise_iff_getElem.1 h4 p' p hq' hq (by omega) g k2 k1

theorem listsOf_ph1 {B Lb : Nat} {ts : List Trip} {w : World} (hL : w.heap[Lb]? = some (.cells (ts.map sval).toArray 22 (0, 0))) (ho : ∀ t ∈ ts, ∃ xs, Own B w t.1 t.2.1 t.2.2 xs) : Ph1 (listsOf B Lb ts) w w 0 0 := by
  refine ⟨hL, BI.refl _ _, fun p hp => ?_⟩
  have hp' : p < ts.length := hp
  obtain ⟨xs, hx⟩ := ho _ (List.getElem_mem hp')
  refine ⟨xs, ?_, fun q _ h => by omega⟩
  show Own B w (tripAt ts p).1 (tripAt ts p).2.1 (tripAt ts p).2.2 xs
  rw [tripAt_eq hp']
  exact hx

/-- **BytesApart answers true where each slice starts a row of its own, and writes nothing below B.** -/
theorem apart_list (B Lb N : Nat) (ts : List Trip) (w : World) (hN : ts.length = N) (h1 : N ≤ 64) (h2 : ∀ t ∈ ts, t.2.1 ≤ 140737488351232) (h3 : B ≤ Lb) (h4 : ts.Pairwise Aside) (hL : w.heap[Lb]? = some (.cells (ts.map sval).toArray 22 (0, 0)))
    (ho : ∀ t ∈ ts, ∃ xs, Own B w t.1 t.2.1 t.2.2 xs) :
    Calls Try.prog 14 #[.slice (some ⟨Lb, 0, none⟩) N N] w fun e w' => e = .returned (.bool true) ∧ BI B w w' :=
  apart_any N Lb (listsOf B Lb ts) (listsOf_good (by omega) h2 h3 h4) w hN rfl (listsOf_ph1 hL ho) (by
    have := (Array.getElem?_eq_some_iff.1 hL).1
    show B ≤ _
    omega)

/-- Two slices of which the second was made when the first was there. -/
theorem aside_of {w w' : World} {t u : Trip} {xs ys : List Int} {B n : Nat} (h1 : Own B w t.1 t.2.1 t.2.2 xs) (h2 : Own n w' u.1 u.2.1 u.2.2 ys) (hn : w.heap.size ≤ n) : Aside t u := by
  intro g e e'
  have k1 := (h1.lt e).1
  have k2 := (h2.lt e').2.1
  omega

/-- What a call has answered: nil, or a slice at the start of a new row. -/
def Made (w w' : World) (a : Option Addr) (l c : Nat) : Prop := l ≤ 140737488351232 ∧ ∃ xs, Own w.heap.size w' a l c xs

end Go.Proofs.Ytknmgefpjdfenaa
