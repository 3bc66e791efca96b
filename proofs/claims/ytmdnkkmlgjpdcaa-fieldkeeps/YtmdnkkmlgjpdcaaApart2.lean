/- The plain states of skerryref01.BytesApart. -/
import Derived.Test.YtmdnkkmlgjpdcaaApart
namespace Go.Proofs.Ytmdnkkmlgjpdcaa
open Go.RowKit Go.Shelf
set_option linter.unusedVariables false

/-- A byte for a place. -/
def mk (n : Int) : Int := (n * 7 + n / 36 + 3) % 256
theorem mk_byte (n : Int) : 0 ≤ mk n ∧ mk n ≤ 255 := by unfold mk; omega

set_option maxHeartbeats 400000 in
theorem mark_any (n : Int) (w : World) (h0 : 0 ≤ n) (h1 : n ≤ 72057594037927936) : Calls Try.prog 33 #[.int .i64 n] w fun e w' => e = .returned (.int .u8 (mk n)) ∧ w = w' := by
  have e1 : wrap64 (n.tdiv 36) = n / 36 := by
    rw [Int.tdiv_eq_ediv_of_nonneg h0]; unfold wrap64; omega
  go_enter Try.func33, Try.ntmps33
  go_wp2
  go_ret
  refine ⟨ret_int ?_, rfl⟩
  unfold mk
  first | rw [IntKind.wrap_u8'] | rfl

/-- What BytesApart is handed: N slices of bytes, each at the start of a row of its own, and where they stand. -/
structure Lists where
  N : Nat
  B : Nat
  Lb : Nat
  ca : Array Value
  A : Nat → Option Addr
  L : Nat → Nat
  C : Nat → Nat
  off : Nat → Nat

/-- They are as they must be. -/
structure Lists.Good (S : Lists) : Prop where
  few : S.N ≤ 64
  size : S.ca.size = S.N
  at' : ∀ p, p < S.N → S.ca[p]? = some (.slice (S.A p) (S.L p) (S.C p))
  off0 : S.off 0 = 0
  offS : ∀ p, p < S.N → S.off (p + 1) = S.off p + S.L p
  fit : ∀ p, p < S.N → S.L p ≤ 140737488351232
  base : S.B ≤ S.Lb
  apart : ∀ p p', p < S.N → p' < S.N → p ≠ p' → ∀ g, S.A p = some ⟨g, 0, none⟩ → S.A p' ≠ some ⟨g, 0, none⟩

theorem Lists.Good.off_le {S : Lists} (h : S.Good) (p : Nat) (hp : p ≤ S.N) : S.off p ≤ p * 140737488351232 := by
  induction p with
  | zero => exact Nat.le_trans (Nat.le_of_eq h.off0) (Nat.zero_le _)
  | succ p ih => rw [h.offS p (by omega)]; have := h.fit p (by omega); have := ih (by omega); omega

theorem Lists.Good.off_bd {S : Lists} (h : S.Good) (p : Nat) (hp : p ≤ S.N) : S.off p ≤ 9007199254478848 := by
  have h1 := h.off_le p hp
  have h2 := h.few
  omega

/-- The list of slices stands where it stood; nothing below B has turned; each slice has bytes, those up to the place (i, j) marked. -/
def Ph1 (S : Lists) (w0 w : World) (i j : Nat) : Prop :=
  w.heap[S.Lb]? = some (.cells S.ca 22 (0, 0)) ∧ Below S.B w0 w ∧
    ∀ p, p < S.N → ∃ cs, Own S.B w (S.A p) (S.L p) (S.C p) cs ∧ ∀ q, q < S.L p → (p < i ∨ (p = i ∧ q < j)) → cs[q]?.getD 0 = mk ((S.off p + q : Nat) : Int)

theorem Ph1.ls {S : Lists} (hS : S.Good) {w0 w : World} {i j : Nat} (h : Ph1 S w0 w i j) {p : Nat} (hp : p < S.N) : w.cell? ⟨S.Lb, p, none⟩ = some (.slice (S.A p) (S.L p) (S.C p)) := by
  simp only [World.cell?, h.1]
  simpa using hS.at' p hp

theorem Ph1.drew {S : Lists} {w0 w : World} {i j : Nat} (h : Ph1 S w0 w i j) : Ph1 S w0 w.drew i j := ⟨h.1, h.2.1.drew, h.2.2⟩

theorem Ph1.next {S : Lists} {w0 w : World} {i : Nat} (h : Ph1 S w0 w i (S.L i)) : Ph1 S w0 w (i + 1) 0 := by
  refine ⟨h.1, h.2.1, fun p hp => ?_⟩
  obtain ⟨cs, ho, hc⟩ := h.2.2 p hp
  refine ⟨cs, ho, fun q hq hx => hc q hq ?_⟩
  by_cases e : p = i
  · subst e; exact .inr ⟨rfl, hq⟩
  · exact .inl (by omega)

theorem Ph1.store {S : Lists} (hS : S.Good) {w0 w : World} {i j : Nat} (h : Ph1 S w0 w i j) (hi : i < S.N) (hj : j < S.L i) :
    ∃ g v, S.A i = some ⟨g, 0, none⟩ ∧ w.cell? ⟨g, j, none⟩ = some v ∧ w.frozen? ⟨g, j, none⟩ = false ∧ Ph1 S w0 (w.setCell ⟨g, j, none⟩ (.int .u8 (mk ((S.off i + j : Nat) : Int)))) i (j + 1) := by
  obtain ⟨cs, ho, hc⟩ := h.2.2 i hi
  obtain ⟨g, e, hg, hcell, hfr⟩ := ho.cell hj
  refine ⟨g, _, e, hcell, hfr, ?_, h.2.1.setCell (p := ⟨g, j, none⟩) hg _, fun p hp => ?_⟩
  · have hne : S.Lb ≠ g := by
      rintro rfl
      rw [e] at ho
      obtain ⟨_, _, _, h4⟩ := ho
      rcases h4 with ⟨h4, _⟩ | ⟨g', cur, e', _, hh, _⟩
      · cases h4
      · cases e'
        rw [h.1] at hh
        simp at hh
    exact (Below.heap_setCell _ _ _ _ hne).trans h.1
  · by_cases hpi : p = i
    · subst hpi
      rw [e] at ho
      have hs := ho.set j (mk ((S.off p + j : Nat) : Int))
      rw [e]
      refine ⟨_, hs, fun q hq hx => ?_⟩
      have hl := ho.1
      by_cases hqj : q = j
      · subst hqj
        rw [List.getElem?_set_self (by omega)]; rfl
      · rw [List.getElem?_set_ne (by omega)]
        exact hc q hq (by omega)
    · obtain ⟨cs', ho', hc'⟩ := h.2.2 p hp
      refine ⟨cs', ho'.kept (fun g' e' => Below.heap_setCell _ _ _ _ ?_), fun q hq hx => hc' q hq (by omega)⟩
      rintro rfl
      exact hS.apart i p hi hp (by omega) _ e e'

end Go.Proofs.Ytmdnkkmlgjpdcaa
