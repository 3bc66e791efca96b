/- What a tree needs, in numbers. -/
import Derived.Test.YtkdiifoipfkmcaaNFile
namespace Go.Proofs.Ytkdiifoipfkmcaa
open Go.RowKit Go.Shelf Ieee
set_option linter.unusedVariables false

/-- The first error. -/
def fstE : List Int → Int
  | [] => 0
  | e :: r => if e = 0 then fstE r else e

/-- The sum of f over the first k numbers. -/
def pre (f : Int → Int) (zs : List Int) (k : Nat) : Int := ((zs.take k).map f).sum

theorem pre_zero (f : Int → Int) (zs : List Int) : pre f zs 0 = 0 := rfl

theorem pre_next (f : Int → Int) (zs : List Int) (k : Nat) (h : k < zs.length) : pre f zs (k + 1) = pre f zs k + f (zs[k]?.getD 0) := by
  unfold pre
  rw [List.take_add_one, List.map_append, List.sum_append, List.getElem?_eq_getElem h]
  simp

theorem pre_all (f : Int → Int) (zs : List Int) : pre f zs zs.length = (zs.map f).sum := by
  unfold pre
  rw [List.take_length]

/-- The first k have no error. -/
def allOk (f : Int → Int) (zs : List Int) (k : Nat) : Prop := ∀ j, j < k → f (zs[j]?.getD 0) = 0

theorem allOk_next {f : Int → Int} {zs : List Int} {k : Nat} (h : allOk f zs k) (h1 : f (zs[k]?.getD 0) = 0) : allOk f zs (k + 1) := by
  intro j hj
  by_cases e : j = k
  · rw [e]; exact h1
  · exact h j (by omega)

theorem fst_ok {f : Int → Int} : ∀ {zs : List Int} (l : List Int), allOk f zs zs.length → fstE (zs.map f ++ l) = fstE l
  | [], l, _ => rfl
  | z :: zs, l, h => by
    have h0 : f z = 0 := by simpa using h 0 (by simp)
    have ht : allOk f zs zs.length := by
      intro j hj
      have := h (j + 1) (by simp; omega)
      simpa using this
    rw [List.map_cons, List.cons_append, fstE, if_pos h0]
    exact fst_ok l ht

theorem fst_bad {f : Int → Int} : ∀ {zs : List Int} {k : Nat} (l : List Int), k < zs.length → allOk f zs k → f (zs[k]?.getD 0) ≠ 0 → fstE (zs.map f ++ l) = f (zs[k]?.getD 0)
  | [], k, l, h, _, _ => by simp at h
  | z :: zs, 0, l, _, _, h1 => by
    have h1' : f z ≠ 0 := by simpa using h1
    rw [List.map_cons, List.cons_append, fstE, if_neg h1']
    simp
  | z :: zs, k + 1, l, hk, h, h1 => by
    have h0 : f z = 0 := by simpa using h 0 (by omega)
    have ht : allOk f zs k := by
      intro j hj
      have := h (j + 1) (by omega)
      simpa using this
    rw [List.map_cons, List.cons_append, fstE, if_pos h0]
    have := fst_bad (f := f) (zs := zs) (k := k) l (by simpa using hk) ht (by simpa using h1)
    simpa using this

/-- The errors of a tree's parts, in their order. -/
def erT (P : Nat → Int) (F D : List Int) : Int := fstE (F.map (whE P) ++ D.map (drE P))
def suB (P : Nat → Int) (F D : List Int) : Int := (F.map (flB P)).sum + (D.map (drB P)).sum
def suI (P : Nat → Int) (F D : List Int) : Int := (F.map (flI P)).sum + (D.map (drI P)).sum

/-- What Tree answers. -/
def trE (P : Nat → Int) (F D : List Int) : Int := if checkE P ≠ 0 then 4 else if erT P F D ≠ 0 then erT P F D else toE (suB P F D) (suI P F D)
def trB (P : Nat → Int) (F D : List Int) : Int := if checkE P ≠ 0 then 0 else if erT P F D ≠ 0 then 0 else toB (suB P F D) (suI P F D)
def trI (P : Nat → Int) (F D : List Int) : Int := if checkE P ≠ 0 then 0 else if erT P F D ≠ 0 then 0 else toI (suB P F D) (suI P F D)

theorem tr_form {P : Nat → Int} {F D : List Int} (h : checkE P ≠ 0) : trE P F D = 4 ∧ trB P F D = 0 ∧ trI P F D = 0 := by
  unfold trE trB trI
  rw [if_pos h, if_pos h, if_pos h]
  exact ⟨rfl, rfl, rfl⟩

theorem tr_err {P : Nat → Int} {F D : List Int} {E : Int} (h : checkE P = 0) (he : erT P F D = E) (h0 : E ≠ 0) : trE P F D = E ∧ trB P F D = 0 ∧ trI P F D = 0 := by
  unfold trE trB trI
  rw [if_neg (show ¬ checkE P ≠ 0 by omega), if_neg (show ¬ checkE P ≠ 0 by omega), if_neg (show ¬ checkE P ≠ 0 by omega), he, if_pos h0, if_pos h0, if_pos h0]
  exact ⟨rfl, rfl, rfl⟩

theorem tr_sum {P : Nat → Int} {F D : List Int} (h : checkE P = 0) (he : erT P F D = 0) : trE P F D = toE (suB P F D) (suI P F D) ∧ trB P F D = toB (suB P F D) (suI P F D) ∧ trI P F D = toI (suB P F D) (suI P F D) := by
  unfold trE trB trI
  rw [if_neg (show ¬ checkE P ≠ 0 by omega), if_neg (show ¬ checkE P ≠ 0 by omega), if_neg (show ¬ checkE P ≠ 0 by omega), he, if_neg (by omega), if_neg (by omega), if_neg (by omega)]
  exact ⟨rfl, rfl, rfl⟩

theorem er_file {P : Nat → Int} {F D : List Int} {k : Nat} (hk : k < F.length) (h : allOk (whE P) F k) (h1 : whE P (F[k]?.getD 0) ≠ 0) : erT P F D = whE P (F[k]?.getD 0) := fst_bad _ hk h h1

theorem er_dir {P : Nat → Int} {F D : List Int} {k : Nat} (hF : allOk (whE P) F F.length) (hk : k < D.length) (h : allOk (drE P) D k) (h1 : drE P (D[k]?.getD 0) ≠ 0) : erT P F D = drE P (D[k]?.getD 0) := by
  unfold erT
  rw [fst_ok _ hF]
  have := fst_bad (f := drE P) (zs := D) [] hk h h1
  rwa [List.append_nil] at this

theorem er_none {P : Nat → Int} {F D : List Int} (hF : allOk (whE P) F F.length) (hD : allOk (drE P) D D.length) : erT P F D = 0 := by
  unfold erT
  rw [fst_ok _ hF]
  have := fst_ok (f := drE P) (zs := D) [] hD
  rwa [List.append_nil] at this

/-- One amount more. -/
theorem am_two {x y u v : Nat} {n m a b : Int} (hx : Am x n) (hy : Am y m) (hu : Rd u a) (hv : Rd v b) (ha : 0 ≤ a ∧ a ≤ 1073741824) (hb : 0 ≤ b ∧ b ≤ 1073741824) :
    ∃ p q, cSumBits .add .f64 x y u v = some (p, q) ∧ Am p (n + a) ∧ Am q (m + b) := by
  obtain ⟨p, e1, r1⟩ := am_add hx hu ha.1 ha.2
  obtain ⟨q, e2, r2⟩ := am_add hy hv hb.1 hb.2
  exact ⟨p, q, by simp [cSumBits, e1, e2], r1, r2⟩

end Go.Proofs.Ytkdiifoipfkmcaa
