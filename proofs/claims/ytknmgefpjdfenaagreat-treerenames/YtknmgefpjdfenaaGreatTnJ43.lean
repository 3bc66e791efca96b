/- Joined: TSame, TSum. -/
import Derived.Test.YtknmgefpjdfenaaGreatTnTDump
/- skerryref17.SameNodes of two lists that tell the same. -/
namespace Go.Proofs.YtknmgefpjdfenaaGreat
open Go.RowKit Go.Shelf Go.Maps
set_option linter.unusedVariables false
set_option maxRecDepth 100000

theorem dcells_get : ∀ (xs : List Nd) (k j : Nat) (x : Nd), xs[k]? = some x → j < 6 → (dcells xs)[k * 6 + j]? = (ncs x).toList[j]?
  | [], k, j, x, h, hj => by cases h
  | a :: r, 0, j, x, h, hj => by
    simp at h
    subst h
    have e : dcells (a :: r) = (ncs a).toList ++ dcells r := by simp [dcells]
    rw [e, Nat.zero_mul, Nat.zero_add, List.getElem?_append_left (by simp [ncs]; omega)]
  | a :: r, k + 1, j, x, h, hj => by
    have h' : r[k]? = some x := by simpa using h
    have e : dcells (a :: r) = (ncs a).toList ++ dcells r := by simp [dcells]
    have hl : (ncs a).toList.length = 6 := by simp [ncs]
    rw [e, List.getElem?_append_right (by omega), hl, ← dcells_get r k j x h' hj]
    congr 1
    omega

/-- The cells of one Node of a list. -/
theorem DL.node {B : Nat} {w : World} {v : Value} {xs : List Nd} (h : DL B w v xs) {k : Nat} {x : Nd} (hx : xs[k]? = some x) : ∃ g cap, v = .slice (some ⟨g, 0, none⟩) xs.length cap ∧ g < w.heap.size ∧
    w.cell? ⟨g, k * 6, none⟩ = some (.string (St x.p)) ∧ w.cell? ⟨g, k * 6 + 1, none⟩ = some (.int .i64 x.t.k) ∧ w.cell? ⟨g, k * 6 + 2, none⟩ = some (.int .i64 (x.t.n : Int)) ∧ w.cell? ⟨g, k * 6 + 3, none⟩ = some (.int .i64 x.t.l) ∧ w.cell? ⟨g, k * 6 + 4, none⟩ = some (.int .i64 (sizeT x.t)) ∧ w.cell? ⟨g, k * 6 + 5, none⟩ = some (.slice x.da x.t.d.length x.dc) := by
  have hk := (List.getElem?_eq_some_iff.1 hx).1
  have hc := fun g (e : _) => h.1.cells (g := g) e
  rcases h.1.2 with ⟨_, hn⟩ | ⟨g, cap, cur, rfl, _, hh, _⟩
  · omega
  · have f := fun (j : Nat) (u : Value) (hj : j < 6) (hu : (ncs x).toList[j]? = some u) => hc g rfl (k * 6 + j) u ((dcells_get xs k j x hx hj).trans hu)
    have c0 := f 0 _ (by omega) rfl
    have c1 := f 1 _ (by omega) rfl
    have c2 := f 2 _ (by omega) rfl
    have c3 := f 3 _ (by omega) rfl
    have c4 := f 4 _ (by omega) rfl
    have c5 := f 5 _ (by omega) rfl
    rw [World.add_zero_spot, Nat.zero_add] at c0 c1 c2 c3 c4 c5
    exact ⟨g, cap, rfl, (Array.getElem?_eq_some_iff.1 hh).1, c0, c1, c2, c3, c4, c5⟩

/-- What a Node tells. -/
def Nd.obs (x : Nd) : List UInt8 × Int × Nat × Int × Int × List Int := (x.p, x.t.k, x.t.n, x.t.l, sizeT x.t, x.t.d)

set_option maxHeartbeats 4000000 in
theorem sameNodes_true {B1 B2 : Nat} {w : World} {v1 v2 : Value} {xs ys : List Nd} (h1 : DL B1 w v1 xs) (h2 : DL B2 w v2 ys) (he : xs.map Nd.obs = ys.map Nd.obs) (hn : xs.length ≤ 1000000) :
    Calls Tryz.prog 11 #[v1, v2] w fun e w' => e = .returned (.bool true) ∧ Below w.heap.size w w' := by
  have hl : ys.length = xs.length := by have := congrArg List.length he; simpa using this.symm
  obtain ⟨a1, z1, rfl⟩ := h1.shape
  obtain ⟨a2, z2, rfl⟩ := h2.shape
  rw [hl] at h2 ⊢
  have HS : Hid (Below w.heap.size w w) := Below.refl _ _
  have HD := hide (And.intro h1 (And.intro h2 he))
  clear h1 h2 he
  generalize hnl : xs.length = n at *
  go_enter Tryz.func11, Tryz.ntmps11
  go_wp2_with fail
  go_loopw [5] (fun iv wr => ∃ k : Nat, k ≤ n ∧ iv = .int .i64 (k : Int) ∧ Hid (Below w.heap.size w wr)) (fun iv _ => (n : Int).toNat - (intOf iv).toNat)
  case atStart => exact ⟨0, Nat.zero_le _, rfl, HS⟩
  case round =>
    obtain ⟨k, hk, rfl, hJ⟩ := hrel
    clear HS
    by_cases hlt : k < n
    · obtain ⟨x, hx⟩ : ∃ x, xs[k]? = some x := ⟨_, List.getElem?_eq_getElem (by omega)⟩
      obtain ⟨y, hy⟩ : ∃ y, ys[k]? = some y := ⟨_, List.getElem?_eq_getElem (by omega)⟩
      have hxy : x.obs = y.obs := by
        have := congrArg (fun l => l[k]?) HD.out.2.2
        simp only [List.getElem?_map, hx, hy] at this
        simpa using this
      have hq1 : DL B1 wr (.slice a1 xs.length z1) xs := by rw [hnl]; exact HD.out.1.below hJ.out (Nat.le_refl _)
      have hq2 : DL B2 wr (.slice a2 ys.length z2) ys := by rw [hl]; exact HD.out.2.1.below hJ.out (Nat.le_refl _)
      obtain ⟨g1, cap1, e1, hg1, c0, c1, c2, c3, c4, c5⟩ := hq1.node hx
      obtain ⟨g2, cap2, e2, hg2, d0, d1, d2, d3, d4, d5⟩ := hq2.node hy
      cases e1
      cases e2
      have ho1 := hq1.2 x (List.mem_of_getElem? hx)
      have ho2 := hq2.2 y (List.mem_of_getElem? hy)
      have hlt' : (k : Int) < (n : Int) := by omega
      have hk0 : (0 : Int) ≤ (k : Int) := by omega
      unfold Nd.obs at hxy
      have q0 := congrArg (fun q => q.1) hxy
      have q1 := congrArg (fun q => q.2.1) hxy
      have q2 := congrArg (fun q => q.2.2.1) hxy
      have q3 := congrArg (fun q => q.2.2.2.1) hxy
      have q4 := congrArg (fun q => q.2.2.2.2.1) hxy
      have q5 := congrArg (fun q => q.2.2.2.2.2) hxy
      simp only at q0 q1 q2 q3 q4 q5
      rw [← q0] at d0
      rw [← q1] at d1
      rw [← q2] at d2
      rw [← q3] at d3
      rw [← q4] at d4
      rw [← q5] at d5 ho2
      have hb1 : Below wr.heap.size wr (wr.alloc (.cells #[.string (St x.p), .int .i64 x.t.k, .int .i64 (x.t.n : Int), .int .i64 x.t.l, .int .i64 (sizeT x.t), .slice x.da x.t.d.length x.dc] 43)) := (Below.refl _ _).alloc (Nat.le_refl _) _
      have blX := Bl.new wr #[.string (St x.p), .int .i64 x.t.k, .int .i64 (x.t.n : Int), .int .i64 x.t.l, .int .i64 (sizeT x.t), .slice x.da x.t.d.length x.dc] 43
      have HJ := hide hJ.out
      clear hJ hq1 hq2 hx hy hxy q0 q1 q2 q3 q4 q5
      generalize St x.p = sp at *
      generalize x.t.k = tk at *
      generalize (x.t.n : Int) = tn at *
      generalize x.t.l = tl at *
      generalize sizeT x.t = tz at *
      generalize x.t.d = td at *
      generalize x.da = da1 at *
      generalize x.dc = dc1 at *
      generalize y.da = da2 at *
      generalize y.dc = dc2 at *
      have d0 := (hb1.cell (p := ⟨g2, k * 6, none⟩) hg2).trans d0
      have d1 := (hb1.cell (p := ⟨g2, k * 6 + 1, none⟩) hg2).trans d1
      have d2 := (hb1.cell (p := ⟨g2, k * 6 + 2, none⟩) hg2).trans d2
      have d3 := (hb1.cell (p := ⟨g2, k * 6 + 3, none⟩) hg2).trans d3
      have d4 := (hb1.cell (p := ⟨g2, k * 6 + 4, none⟩) hg2).trans d4
      have d5 := (hb1.cell (p := ⟨g2, k * 6 + 5, none⟩) hg2).trans d5
      go_upto_region 7 with fail
      change Code.wp _ _ _ _ (wr.alloc (.cells #[.string sp, .int .i64 tk, .int .i64 tn, .int .i64 tl, .int .i64 tz, .slice da1 td.length dc1] 43))
      have hb2 : Below (wr.alloc (.cells #[.string sp, .int .i64 tk, .int .i64 tn, .int .i64 tl, .int .i64 tz, .slice da1 td.length dc1] 43)).heap.size (wr.alloc (.cells #[.string sp, .int .i64 tk, .int .i64 tn, .int .i64 tl, .int .i64 tz, .slice da1 td.length dc1] 43)) ((wr.alloc (.cells #[.string sp, .int .i64 tk, .int .i64 tn, .int .i64 tl, .int .i64 tz, .slice da1 td.length dc1] 43)).alloc (.cells #[.string sp, .int .i64 tk, .int .i64 tn, .int .i64 tl, .int .i64 tz, .slice da2 td.length dc2] 43)) := (Below.refl _ _).alloc (Nat.le_refl _) _
      have HB := hide (HJ.out.trans ((hb1.trans (hb2.mono hb1.size)).mono HJ.out.size))
      have blY := Bl.new (wr.alloc (.cells #[.string sp, .int .i64 tk, .int .i64 tn, .int .i64 tl, .int .i64 tz, .slice da1 td.length dc1] 43)) #[.string sp, .int .i64 tk, .int .i64 tn, .int .i64 tl, .int .i64 tz, .slice da2 td.length dc2] 43
      have blX := blX.call hb2
      have v1 := ((ho1.below hb1 (Nat.le_refl _)).below hb2 (Nat.le_refl _)).has.conv dc1
      have v2 := ((ho2.below hb1 (Nat.le_refl _)).below hb2 (Nat.le_refl _)).has.conv dc2
      clear ho1 ho2 c0 c1 c2 c3 c4 c5
      generalize wr.alloc (.cells #[.string sp, .int .i64 tk, .int .i64 tn, .int .i64 tl, .int .i64 tz, .slice da1 td.length dc1] 43) = w1 at *
      generalize wr.heap.size = m1 at *
      go_upto_region 8 with fail
      change Code.wp _ _ _ _ (w1.alloc (.cells #[.string sp, .int .i64 tk, .int .i64 tn, .int .i64 tl, .int .i64 tz, .slice da2 td.length dc2] 43))
      clear d0 d1 d2 d3 d4 d5 hb1 hb2 HJ
      generalize w1.alloc (.cells #[.string sp, .int .i64 tk, .int .i64 tn, .int .i64 tl, .int .i64 tz, .slice da2 td.length dc2] 43) = w2 at *
      generalize w1.heap.size = m2 at *
      have x0 := blX.cell 0 _ rfl
      have x1 := blX.cell 1 _ rfl
      have x2 := blX.cell 2 _ rfl
      have x3 := blX.cell 3 _ rfl
      have x4 := blX.cell 4 _ rfl
      have x5 := blX.cell 5 _ rfl
      have y0 := blY.cell 0 _ rfl
      have y1 := blY.cell 1 _ rfl
      have y2 := blY.cell 2 _ rfl
      have y3 := blY.cell 3 _ rfl
      have y4 := blY.cell 4 _ rfl
      have y5 := blY.cell 5 _ rfl
      clear blX blY
      generalize td.length = ld at *
      generalize strOfNums td = sd at *
      have b0 : (sp.toList == sp.toList) = true := by simp
      have b1 : (tk == tk) = true := by simp
      have b2 : (tn == tn) = true := by simp
      have b3 : (tl == tl) = true := by simp
      have b4 : (tz == tz) = true := by simp
      have b5 : (sd.toList == sd.toList) = true := by simp
      go_wp2_with fail
      go_roundw
      case rel => exact ⟨k + 1, by omega, by go_num, HB⟩
      case measure => simp [intOf]; omega
    · obtain rfl : k = n := by omega
      clear HD
      go_wp2_with fail
      go_ret
      exact ⟨rfl, hJ.out⟩

end Go.Proofs.YtknmgefpjdfenaaGreat

/- Sums over the row of things, and the names that stand for a thing. -/
namespace Go.Proofs.YtknmgefpjdfenaaGreat
open Go.RowKit Go.Shelf Go.Maps
set_option linter.unusedVariables false
set_option maxRecDepth 100000

/-- A sum over the things of a row. -/
def sumR (F : Nat → Nat) : List (Option Nat) → Nat
  | [] => 0
  | o :: r => o.elim 0 F + sumR F r

theorem sumR_append (F : Nat → Nat) (a b : List (Option Nat)) : sumR F (a ++ b) = sumR F a + sumR F b := by
  induction a with
  | nil => simp [sumR]
  | cons o r ih => simp only [List.cons_append, sumR, ih]; omega

theorem sumR_none (F : Nat → Nat) (k : Nat) : sumR F (List.replicate k none) = 0 := by
  induction k with
  | zero => rfl
  | succ k ih => rw [List.replicate_succ]; simp [sumR, ih]

theorem sumR_pad (F : Nat → Nat) (row : List (Option Nat)) (f : Nat) : sumR F (pad row f) = sumR F row := by
  unfold pad
  rw [sumR_append, sumR_none]
  omega

theorem sumR_set (F : Nat → Nat) : ∀ (row : List (Option Nat)) (i : Nat) (o o' : Option Nat), row[i]? = some o → sumR F (row.set i o') + o.elim 0 F = sumR F row + o'.elim 0 F
  | [], i, o, o', h => by cases h
  | a :: r, 0, o, o', h => by
    simp at h
    subst h
    simp only [List.set_cons_zero, sumR]
    omega
  | a :: r, i + 1, o, o', h => by
    have h' : r[i]? = some o := by simpa using h
    have := sumR_set F r i o o' h'
    simp only [List.set_cons_succ, sumR]
    omega

theorem sumR_congr {F G : Nat → Nat} : ∀ (row : List (Option Nat)), (∀ i b : Nat, row[i]? = some (some b) → F b = G b) → sumR F row = sumR G row
  | [], _ => rfl
  | a :: r, h => by
    have h1 := sumR_congr r (fun i b e => h (i + 1) b (by simpa using e))
    have h2 : a.elim 0 F = a.elim 0 G := by
      cases a with
      | none => rfl
      | some b => exact h 0 b rfl
    simp only [sumR, h1, h2]

theorem sumR_le {F G : Nat → Nat} : ∀ (row : List (Option Nat)), (∀ i b : Nat, row[i]? = some (some b) → F b ≤ G b) → sumR F row ≤ sumR G row
  | [], _ => Nat.le_refl _
  | a :: r, h => by
    have h1 := sumR_le r (fun i b e => h (i + 1) b (by simpa using e))
    have h2 : a.elim 0 F ≤ a.elim 0 G := by
      cases a with
      | none => exact Nat.le_refl _
      | some b => exact h 0 b rfl
    simp only [sumR]
    omega

theorem sumR_ge {F : Nat → Nat} {row : List (Option Nat)} {i b : Nat} (h : row[i]? = some (some b)) : F b ≤ sumR F row := by
  have := sumR_set F row i (some b) none h
  simp at this
  omega

theorem sumR_ge2 {F : Nat → Nat} {row : List (Option Nat)} {i j b c : Nat} (h : row[i]? = some (some b)) (h' : row[j]? = some (some c)) (hij : i ≠ j) : F b + F c ≤ sumR F row := by
  have h1 := sumR_set F row i (some b) none h
  have h2 : (row.set i none)[j]? = some (some c) := by rw [List.getElem?_set_ne hij]; exact h'
  have h3 := sumR_ge (F := F) h2
  simp at h1
  omega

theorem sumR_lt {F G : Nat → Nat} {row : List (Option Nat)} (h : ∀ i b : Nat, row[i]? = some (some b) → F b ≤ G b) {i b : Nat} (hb : row[i]? = some (some b)) (hlt : F b < G b) : sumR F row < sumR G row := by
  have h1 := sumR_set F row i (some b) none hb
  have h2 := sumR_set G row i (some b) none hb
  have h3 : sumR F (row.set i none) ≤ sumR G (row.set i none) := sumR_le _ (fun j c e => by
    by_cases hj : i = j
    · subst hj
      rw [List.getElem?_set_self (List.getElem?_eq_some_iff.1 hb).1] at e
      cases e
    · rw [List.getElem?_set_ne hj] at e
      exact h j c e)
  simp at h1 h2
  omega

/-- One thing of a row counts otherwise. -/
theorem sumR_upd {F G : Nat → Nat} {row : List (Option Nat)} {i d : Nat} (hd : row[i]? = some (some d)) (h1 : ∀ j, row[j]? = some (some d) → j = i) (h : ∀ b, b ≠ d → F b = G b) : sumR G row + F d = sumR F row + G d := by
  have a := sumR_set F row i (some d) none hd
  have b := sumR_set G row i (some d) none hd
  have c : sumR F (row.set i none) = sumR G (row.set i none) := sumR_congr _ (fun j x e => by
    by_cases hj : i = j
    · subst hj
      rw [List.getElem?_set_self (List.getElem?_eq_some_iff.1 hd).1] at e
      cases e
    · rw [List.getElem?_set_ne hj] at e
      refine h x (fun ex => ?_)
      subst ex
      exact hj (h1 j e).symm)
  simp at a b
  omega

theorem sumR_const (row : List (Option Nat)) {F : Nat → Nat} (h : ∀ i b : Nat, row[i]? = some (some b) → F b ≤ 1) : sumR F row ≤ row.length := by
  induction row with
  | nil => exact Nat.le_refl _
  | cons a r ih =>
    have h1 := ih (fun i b e => h (i + 1) b (by simpa using e))
    have h2 : a.elim 0 F ≤ 1 := by
      cases a with
      | none => exact Nat.zero_le _
      | some b => exact h 0 b rfl
    simp only [sumR, List.length_cons]
    omega

theorem sumR_zero {F : Nat → Nat} (row : List (Option Nat)) (h : ∀ i b : Nat, row[i]? = some (some b) → F b = 0) : sumR F row = 0 := by
  rw [sumR_congr (G := fun _ => 0) row h]
  induction row with
  | nil => rfl
  | cons a r ih =>
    have := ih (fun i b e => h (i + 1) b (by simpa using e))
    simp only [sumR, this]
    cases a <;> rfl

/-- How many names stand for a block. -/
def nmc (ns : NS) (b : Nat) : Nat := (ns.map (fun e => if e.2 = b then 1 else 0)).sum

theorem nmc_cons (e : List UInt8 × Nat) (r : NS) (b : Nat) : nmc (e :: r) b = (if e.2 = b then 1 else 0) + nmc r b := by simp [nmc]

theorem nmc_nil (b : Nat) : nmc [] b = 0 := rfl

theorem nmc_mem {ns : NS} {e : List UInt8 × Nat} (h : e ∈ ns) : 1 ≤ nmc ns e.2 := by
  induction ns with
  | nil => cases h
  | cons d r ih =>
    rw [nmc_cons]
    rcases List.mem_cons.1 h with rfl | h
    · rw [if_pos rfl]; omega
    · have := ih h; omega

theorem nmc_pos {ns : NS} {b : Nat} (h : nmc ns b ≠ 0) : ∃ e ∈ ns, e.2 = b := by
  induction ns with
  | nil => exact absurd rfl h
  | cons d r ih =>
    rw [nmc_cons] at h
    by_cases hd : d.2 = b
    · exact ⟨d, List.mem_cons_self, hd⟩
    · rw [if_neg hd, Nat.zero_add] at h
      obtain ⟨e, he, h2⟩ := ih h
      exact ⟨e, List.mem_cons_of_mem _ he, h2⟩

theorem nmc_two {ns : NS} {e e' : List UInt8 × Nat} (h : e ∈ ns) (h' : e' ∈ ns) (hne : e ≠ e') (hb : e.2 = e'.2) : 2 ≤ nmc ns e.2 := by
  induction ns with
  | nil => cases h
  | cons d r ih =>
    have hc := nmc_cons d r e.2
    by_cases h1 : e = d
    · have h2 : (if d.2 = e.2 then 1 else 0) = 1 := if_pos (by rw [h1])
      have h3 : e' ∈ r := (List.mem_cons.1 h').resolve_left (fun q => hne (by rw [h1, q]))
      have h4 := nmc_mem h3
      rw [← hb] at h4
      omega
    · have h3 : e ∈ r := (List.mem_cons.1 h).resolve_left h1
      have h4 := nmc_mem h3
      by_cases h5 : e' = d
      · have h2 : (if d.2 = e.2 then 1 else 0) = 1 := if_pos (by rw [← h5, hb])
        omega
      · have h6 : e' ∈ r := (List.mem_cons.1 h').resolve_left h5
        have := ih h3 h6
        omega

theorem nmc_le (ns : NS) (b : Nat) : nmc ns b ≤ ns.length := by
  induction ns with
  | nil => exact Nat.le_refl _
  | cons d r ih =>
    rw [nmc_cons, List.length_cons]
    split <;> omega

theorem nmc_put {ns : NS} {z : List UInt8} (b x : Nat) (h : ns.lookup z = none) : nmc (putN z b ns) x = nmc ns x + (if b = x then 1 else 0) := by
  induction ns with
  | nil => simp [putN, nmc]
  | cons d r ih =>
    obtain ⟨y, c⟩ := d
    rw [look_cons] at h
    by_cases hz : z = y
    · rw [if_pos hz] at h; cases h
    · rw [if_neg hz] at h
      unfold putN
      split
      · rw [nmc_cons, nmc_cons]; simp only; omega
      · rw [nmc_cons, nmc_cons, ih h]; omega

theorem len_put {ns : NS} {z : List UInt8} (b : Nat) (h : ns.lookup z = none) : (putN z b ns).length = ns.length + 1 := by
  induction ns with
  | nil => rfl
  | cons d r ih =>
    obtain ⟨y, c⟩ := d
    rw [look_cons] at h
    by_cases hz : z = y
    · rw [if_pos hz] at h; cases h
    · rw [if_neg hz] at h
      unfold putN
      split
      · rfl
      · rw [List.length_cons, ih h, List.length_cons]

theorem del_none {ns : NS} {z : List UInt8} (h : ns.lookup z = none) : delN z ns = ns := by
  induction ns with
  | nil => rfl
  | cons d r ih =>
    obtain ⟨y, c⟩ := d
    rw [look_cons] at h
    by_cases hz : z = y
    · rw [if_pos hz] at h; cases h
    · rw [if_neg hz] at h
      have e0 : (!(y == z)) = true := by simpa using fun e : y = z => hz e.symm
      unfold delN at ih ⊢
      rw [List.filter_cons, if_pos e0, ih h]

theorem del_cons (z y : List UInt8) (c : Nat) (r : NS) : delN z ((y, c) :: r) = if y = z then delN z r else (y, c) :: delN z r := by
  unfold delN
  rw [List.filter_cons]
  by_cases h : y = z
  · rw [if_pos h, if_neg (by simp [h])]
  · rw [if_neg h, if_pos (by simpa using h)]

theorem tail_none {y : List UInt8} {c : Nat} {r : NS} (hr : Rise ((y, c) :: r)) : r.lookup y = none := by
  cases h : r.lookup y with
  | none => rfl
  | some b =>
    have h1 := (List.pairwise_cons.1 (rise_ne hr)).1 _ (mem_look h)
    exact absurd rfl h1

theorem nmc_del {ns : NS} {z : List UInt8} {c : Nat} (hr : Rise ns) (h : ns.lookup z = some c) (x : Nat) : nmc (delN z ns) x + (if c = x then 1 else 0) = nmc ns x := by
  induction ns with
  | nil => cases h
  | cons d r ih =>
    obtain ⟨y, c'⟩ := d
    rw [look_cons] at h
    rw [del_cons, nmc_cons]
    by_cases hz : z = y
    · rw [if_pos hz] at h
      cases h
      rw [if_pos hz.symm, hz, del_none (tail_none hr)]
      simp only
      omega
    · rw [if_neg hz] at h
      have := ih (List.pairwise_cons.1 hr).2 h
      rw [if_neg (fun e => hz e.symm), nmc_cons]
      omega

theorem len_del {ns : NS} {z : List UInt8} {c : Nat} (hr : Rise ns) (h : ns.lookup z = some c) : (delN z ns).length + 1 = ns.length := by
  induction ns with
  | nil => cases h
  | cons d r ih =>
    obtain ⟨y, c'⟩ := d
    rw [look_cons] at h
    rw [del_cons, List.length_cons]
    by_cases hz : z = y
    · rw [if_pos hz.symm, hz, del_none (tail_none hr)]
    · rw [if_neg hz] at h
      have := ih (List.pairwise_cons.1 hr).2 h
      rw [if_neg (fun e => hz e.symm), List.length_cons]
      omega

/-- Rising lists that look alike are one. -/
theorem ns_ext : ∀ {a b : NS}, Rise a → Rise b → (∀ z, a.lookup z = b.lookup z) → a = b
  | [], [], _, _, _ => rfl
  | [], (y, c) :: r, _, _, h => by have := h y; rw [look_cons, if_pos rfl] at this; cases this
  | (y, c) :: r, [], _, _, h => by have := h y; rw [look_cons, if_pos rfl] at this; cases this
  | (y, c) :: r, (y', c') :: r', ha, hb, h => by
    have e : y = y' := by
      by_cases e : y = y'
      · exact e
      · exfalso
        have h1 := h y
        have h2 := h y'
        rw [look_cons, if_pos rfl, look_cons, if_neg e] at h1
        rw [look_cons, if_neg (fun q => e q.symm), look_cons, if_pos rfl] at h2
        have b1 := (List.pairwise_cons.1 hb).1 _ (mem_look h1.symm)
        have b2 := (List.pairwise_cons.1 ha).1 _ (mem_look h2)
        have := WideShapes.bytes_trans _ _ _ b1 b2
        rw [WideAt.bytes_irrefl] at this
        cases this
    subst e
    have hc := h y
    rw [look_cons, if_pos rfl, look_cons, if_pos rfl] at hc
    cases hc
    rw [ns_ext (List.pairwise_cons.1 ha).2 (List.pairwise_cons.1 hb).2 (fun z => ?_)]
    have hz := h z
    rw [look_cons, look_cons] at hz
    by_cases e : z = y
    · rw [e, tail_none ha, tail_none hb]
    · rwa [if_neg e, if_neg e] at hz

theorem del_put {ns : NS} {z : List UInt8} {b : Nat} (hr : Rise ns) (h : ns.lookup z = none) : delN z (putN z b ns) = ns :=
  ns_ext (rise_del z (rise_put z b hr)) hr (fun y => by
    rw [look_del, look_put]
    by_cases e : y = z
    · rw [if_pos e, e, h]
    · rw [if_neg e, if_neg e])

theorem put_del {ns : NS} {z : List UInt8} {b : Nat} (hr : Rise ns) (h : ns.lookup z = some b) : putN z b (delN z ns) = ns :=
  ns_ext (rise_put z b (rise_del z hr)) hr (fun y => by
    rw [look_put, look_del]
    by_cases e : y = z
    · rw [if_pos e, e, h]
    · rw [if_neg e, if_neg e])

/-- The names in a block. -/
def Tr.nsOf (s : Tr) (d : Nat) : NS := match s.T d with
  | none => []
  | some t => t.ns

theorem nsOf_some {s : Tr} {d : Nat} {t : Th} (h : s.T d = some t) : s.nsOf d = t.ns := by unfold Tr.nsOf; rw [h]

theorem nsOf_none {s : Tr} {d : Nat} (h : s.T d = none) : s.nsOf d = [] := by unfold Tr.nsOf; rw [h]

/-- How many names a thing has. -/
def Tr.cnt (s : Tr) (b : Nat) : Nat := sumR (fun d => nmc (s.nsOf d) b) s.row

/-- How many names there are. -/
def Tr.all (s : Tr) : Nat := sumR (fun d => (s.nsOf d).length) s.row

/-- A tree that has come about by calls: at most n names. -/
structure Wf (s : Tr) (r n : Nat) : Prop where
  ok : Ok s r
  rk : ∃ rk : Nat → Nat, ∀ b t, s.T b = some t → ∀ e ∈ t.ns, rk e.2 < rk b
  liv : ∀ b t, s.T b = some t → ∀ e ∈ t.ns, (∃ t', s.T e.2 = some t') ∧ e.1.length ≤ 200
  ris : ∀ b t, s.T b = some t → Rise t.ns
  num : ∀ b t, s.T b = some t → s.row[t.n]? = some (some b)
  row : ∀ i b, s.row[i]? = some (some b) → ∃ t, s.T b = some t ∧ t.n = i
  lnk : ∀ b t, s.T b = some t → b ≠ r → t.l = (s.cnt b : Int) ∧ 1 ≤ s.cnt b
  top : s.cnt r = 0
  dir : ∀ b t, s.T b = some t → t.k = 2 → t.d = [] ∧ s.cnt b ≤ 1
  fil : ∀ b t, s.T b = some t → t.k = 1 → t.ns = []
  opn : ∀ f b, s.opn f = some b → ∃ t, s.T b = some t ∧ t.k = 1
  siz : ∀ b t, s.T b = some t → (t.d.length : Int) ≤ s.most
  mst : 0 ≤ s.most ∧ s.most ≤ 524288
  few : s.all ≤ n
  len : s.row.length ≤ n + 2
  lst : s.least ≤ s.row.length

theorem Wf.once {s : Tr} {r n i j b : Nat} (h : Wf s r n) (h1 : s.row[i]? = some (some b)) (h2 : s.row[j]? = some (some b)) : i = j := by
  obtain ⟨t, ht, e⟩ := h.row i b h1
  obtain ⟨t', ht', e'⟩ := h.row j b h2
  rw [ht] at ht'
  cases ht'
  rw [← e, ← e']

theorem Wf.kind2 {s : Tr} {r n b : Nat} {t : Th} (h : Wf s r n) (ht : s.T b = some t) {e : List UInt8 × Nat} (he : e ∈ t.ns) : t.k = 2 := by
  rcases h.ok.kind b t ht with h1 | h1
  · rw [h.fil b t ht h1] at he; cases he
  · exact h1

theorem Wf.named {s : Tr} {r n d : Nat} {t : Th} (h : Wf s r n) (ht : s.T d = some t) {e : List UInt8 × Nat} (he : e ∈ t.ns) : 1 ≤ s.cnt e.2 := by
  have h1 := sumR_ge (F := fun d => nmc (s.nsOf d) e.2) (h.num d t ht)
  have h2 := nmc_mem he
  simp only [nsOf_some ht] at h1
  unfold Tr.cnt
  omega

theorem Wf.named_ne {s : Tr} {r n d : Nat} {t : Th} (h : Wf s r n) (ht : s.T d = some t) {e : List UInt8 × Nat} (he : e ∈ t.ns) : e.2 ≠ r := fun e' => by
  have := h.named ht he
  rw [e', h.top] at this
  omega

/-- A directory has one name. -/
theorem Wf.one {s : Tr} {r n d d' : Nat} {t t' : Th} (h : Wf s r n) (ht : s.T d = some t) (ht' : s.T d' = some t') {e e' : List UInt8 × Nat} (he : e ∈ t.ns) (he' : e' ∈ t'.ns) (hb : e.2 = e'.2) (hc : s.cnt e.2 ≤ 1) : d = d' ∧ e = e' := by
  by_cases hd : d = d'
  · subst hd
    rw [ht] at ht'
    cases ht'
    refine ⟨rfl, ?_⟩
    by_cases hne : e = e'
    · exact hne
    · exfalso
      have h1 := sumR_ge (F := fun d => nmc (s.nsOf d) e.2) (h.num d t ht)
      simp only [nsOf_some ht] at h1
      have h2 := nmc_two he he' hne hb
      unfold Tr.cnt at hc
      omega
  · exfalso
    have hi : t.n ≠ t'.n := fun e0 => by
      have h1 := h.num d t ht
      have h2 := h.num d' t' ht'
      rw [e0, h2] at h1
      cases h1
      exact hd rfl
    have h1 := sumR_ge2 (F := fun d => nmc (s.nsOf d) e.2) (h.num d t ht) (h.num d' t' ht') hi
    simp only [nsOf_some ht, nsOf_some ht'] at h1
    have h2 := nmc_mem he
    have h3 := nmc_mem he'
    rw [← hb] at h3
    unfold Tr.cnt at hc
    omega

theorem Wf.root {s : Tr} {r n : Nat} (h : Wf s r n) : ∃ t, s.T r = some t ∧ t.k = 2 ∧ t.n = 1 := by
  obtain ⟨t, ht, hk⟩ := h.ok.dir
  obtain ⟨t', ht', hn⟩ := h.row 1 r h.ok.root
  rw [ht] at ht'
  cases ht'
  exact ⟨t, ht, hk, hn⟩

theorem Wf.cnt_le {s : Tr} {r n : Nat} (h : Wf s r n) (b : Nat) : s.cnt b ≤ n := by
  refine Nat.le_trans (sumR_le _ (fun i d _ => nmc_le _ _)) h.few

theorem Wf.ns_le {s : Tr} {r n d : Nat} {t : Th} (h : Wf s r n) (ht : s.T d = some t) : t.ns.length ≤ n := by
  have h1 := sumR_ge (F := fun d => (s.nsOf d).length) (h.num d t ht)
  simp only [nsOf_some ht] at h1
  exact Nat.le_trans h1 h.few

/-- A small rank. -/
theorem Wf.deep {s : Tr} {r n : Nat} (h : Wf s r n) (hn : n ≤ 1000000) : ∃ rk, Deep s rk ∧ ∀ b, rk b ≤ n + 2 := by
  obtain ⟨rk, hrk⟩ := h.rk
  refine ⟨fun b => sumR (fun c => if rk c < rk b then 1 else 0) s.row, ⟨fun b t ht e he => ?_, fun b t ht => ?_⟩, fun b => ?_⟩
  · obtain ⟨⟨t', ht'⟩, hx⟩ := h.liv b t ht e he
    have hlt := hrk b t ht e he
    refine ⟨⟨t', ht'⟩, hx, sumR_lt (fun i c _ => ?_) (h.num e.2 t' ht') ?_⟩
    · show (if rk c < rk e.2 then 1 else 0) ≤ (if rk c < rk b then 1 else 0)
      by_cases h1 : rk c < rk e.2
      · rw [if_pos h1, if_pos (by omega)]; exact Nat.le_refl _
      · rw [if_neg h1]; exact Nat.zero_le _
    · show (if rk e.2 < rk e.2 then 1 else 0) < (if rk e.2 < rk b then 1 else 0)
      rw [if_neg (Nat.lt_irrefl _), if_pos hlt]; omega
  · have h1 := h.siz b t ht
    have h2 := h.mst.2
    refine ⟨by omega, Nat.le_trans (h.ns_le ht) hn, ?_⟩
    rcases h.ok.kind b t ht with h3 | h3
    · exact .inr (h.fil b t ht h3)
    · exact .inl h3
  · refine Nat.le_trans (sumR_const _ (fun i c _ => ?_)) h.len
    show (if rk c < rk b then 1 else 0) ≤ 1
    split <;> omega

/-- The things that Dump meets. -/
def dumpB (s : Tr) : Nat → Nat → List Nat
  | 0, _ => []
  | n + 1, b => match s.T b with
    | none => []
    | some t => b :: t.ns.flatMap (fun e => dumpB s n e.2)

theorem dumpB_some {s : Tr} {b : Nat} {t : Th} (h : s.T b = some t) (n : Nat) : dumpB s (n + 1) b = b :: t.ns.flatMap (fun e => dumpB s n e.2) := by
  conv => lhs; unfold dumpB
  rw [h]

theorem dumpL_things (s : Tr) : ∀ (n : Nat) (p : List UInt8) (b : Nat), (dumpL s n p b).map (·.2) = (dumpB s n b).filterMap s.T
  | 0, _, _ => rfl
  | n + 1, p, b => by
    cases h : s.T b with
    | none => unfold dumpL dumpB; rw [h]; rfl
    | some t =>
      rw [dumpL_some h, dumpB_some h, List.map_cons, List.filterMap_cons, h]
      congr 1
      rw [List.map_flatMap, List.filterMap_flatMap]
      congr 1
      funext e
      exact dumpL_things s n (subP p e.1) e.2

theorem dumpB_live (s : Tr) : ∀ (n b c : Nat), c ∈ dumpB s n b → ∃ t, s.T c = some t
  | 0, b, c, h => by cases h
  | n + 1, b, c, h => by
    cases ht : s.T b with
    | none => unfold dumpB at h; rw [ht] at h; cases h
    | some t =>
      rw [dumpB_some ht] at h
      rcases List.mem_cons.1 h with rfl | h
      · exact ⟨t, ht⟩
      · obtain ⟨e, _, h⟩ := List.mem_flatMap.1 h
        exact dumpB_live s n e.2 c h

/-- What is met is met by its names. -/
theorem dumpB_sum {s : Tr} {rk : Nat → Nat} (hd : Deep s rk) (W : Nat → Nat) (U : Nat → Nat) (V : NS → Nat) (hV : ∀ ns : NS, V ns = (ns.map (fun e => U e.2)).sum) : ∀ (n b : Nat), (∃ t, s.T b = some t) → rk b < n →
    ((dumpB s n b).map U).sum = U b + ((dumpB s n b).map (fun d => V (s.nsOf d))).sum
  | 0, b, _, h => by omega
  | n + 1, b, ⟨t, ht⟩, h => by
    rw [dumpB_some ht, List.map_cons, List.sum_cons, List.map_cons, List.sum_cons, nsOf_some ht, hV]
    congr 1
    have hl := hd.live b t ht
    have key : ∀ es : NS, (∀ e ∈ es, e ∈ t.ns) → ((es.flatMap (fun e => dumpB s n e.2)).map U).sum = (es.map (fun e => U e.2)).sum + ((es.flatMap (fun e => dumpB s n e.2)).map (fun d => V (s.nsOf d))).sum := by
      intro es
      induction es with
      | nil => intro _; rfl
      | cons e r ih =>
        intro hm
        obtain ⟨hlv, _, hr⟩ := hl e (hm e List.mem_cons_self)
        have h1 := dumpB_sum hd W U V hV n e.2 hlv (by omega)
        have h2 := ih (fun x hx => hm x (List.mem_cons_of_mem _ hx))
        rw [List.flatMap_cons, List.map_append, List.sum_append, h1, h2, List.map_cons, List.sum_cons, List.map_append, List.sum_append]
        omega
    exact key t.ns (fun e he => he)

theorem sum_count {row : List (Option Nat)} (F : Nat → Nat) (hone : ∀ i j b : Nat, row[i]? = some (some b) → row[j]? = some (some b) → i = j) : ∀ (L : List Nat), (∀ d ∈ L, ∃ i : Nat, row[i]? = some (some d)) → (L.map F).sum = sumR (fun d => L.count d * F d) row
  | [], _ => by
    rw [sumR_zero _ (fun i b _ => by simp)]
    rfl
  | a :: L, h => by
    have ih := sum_count F hone L (fun d hd => h d (List.mem_cons_of_mem _ hd))
    obtain ⟨i, hi⟩ := h a List.mem_cons_self
    have := sumR_upd (F := fun d => L.count d * F d) (G := fun d => (a :: L).count d * F d) hi (fun j hj => hone j i a hj hi) (fun b hb => by
      rw [List.count_cons_of_ne (fun e => hb e.symm)])
    simp only [List.count_cons_self] at this
    rw [List.map_cons, List.sum_cons, ih]
    have e : (L.count a + 1) * F a = L.count a * F a + F a := Nat.succ_mul _ _
    omega

theorem count_sum (L : List Nat) (c : Nat) : L.count c = (L.map (fun d => if d = c then 1 else 0)).sum := by
  induction L with
  | nil => rfl
  | cons a r ih =>
    rw [List.map_cons, List.sum_cons, ← ih]
    by_cases h : a = c
    · subst h; rw [List.count_cons_self, if_pos rfl]; omega
    · rw [List.count_cons_of_ne h, if_neg h]; omega

theorem len_sum (L : List Nat) : L.length = (L.map (fun _ => 1)).sum := by
  induction L with
  | nil => rfl
  | cons a r ih => rw [List.map_cons, List.sum_cons, ← ih, List.length_cons]; omega

theorem Wf.met {s : Tr} {r n : Nat} (h : Wf s r n) {rk : Nat → Nat} (hd : Deep s rk) (m : Nat) (F : Nat → Nat) : ((dumpB s m r).map F).sum = sumR (fun d => (dumpB s m r).count d * F d) s.row :=
  sum_count F (fun i j b => h.once) _ (fun d hm => by
    obtain ⟨t, ht⟩ := dumpB_live s m r d hm
    exact ⟨t.n, h.num d t ht⟩)

theorem Wf.count {s : Tr} {r n : Nat} (h : Wf s r n) {rk : Nat → Nat} (hd : Deep s rk) {m : Nat} (hm : rk r < m) (c : Nat) : (dumpB s m r).count c = (if r = c then 1 else 0) + sumR (fun d => (dumpB s m r).count d * nmc (s.nsOf d) c) s.row := by
  obtain ⟨tr, htr, _⟩ := h.ok.dir
  have h1 := dumpB_sum hd (fun _ => 0) (fun d => if d = c then 1 else 0) (fun ns => nmc ns c) (fun ns => rfl) m r ⟨tr, htr⟩ hm
  rw [count_sum, h1, h.met hd]

/-- Each directory is met once. -/
theorem Wf.visit {s : Tr} {r n : Nat} (h : Wf s r n) {rk : Nat → Nat} (hd : Deep s rk) {m : Nat} (hm : rk r < m) : ∀ (k d : Nat) (t : Th), s.T d = some t → t.k = 2 → sumR rk s.row + 1 ≤ rk d + k → (dumpB s m r).count d = 1
  | 0, d, t, ht, _, hk => by
    have := sumR_ge (F := rk) (h.num d t ht)
    omega
  | k + 1, d, t, ht, h2, hk => by
    have hc : sumR (fun d' => (dumpB s m r).count d' * nmc (s.nsOf d') d) s.row = s.cnt d := by
      unfold Tr.cnt
      refine sumR_congr _ (fun i d' hi => ?_)
      by_cases h0 : nmc (s.nsOf d') d = 0
      · rw [h0, Nat.mul_zero]
      · obtain ⟨t', ht', _⟩ := h.row i d' hi
        rw [nsOf_some ht'] at h0 ⊢
        obtain ⟨e, he, hed⟩ := nmc_pos h0
        have hr := (hd.live d' t' ht' e he).2.2
        rw [hed] at hr
        rw [h.visit hd hm k d' t' ht' (h.kind2 ht' he) (by omega), Nat.one_mul]
    rw [h.count hd hm, hc]
    by_cases hr : r = d
    · subst hr
      rw [if_pos rfl, h.top]
    · rw [if_neg hr]
      have h1 := (h.lnk d t ht (fun e => hr e.symm)).2
      have h3 := (h.dir d t ht h2).2
      omega

theorem Wf.visits {s : Tr} {r n d : Nat} {t : Th} (h : Wf s r n) {rk : Nat → Nat} (hd : Deep s rk) {m : Nat} (hm : rk r < m) (ht : s.T d = some t) (h2 : t.k = 2) : (dumpB s m r).count d = 1 :=
  h.visit hd hm (sumR rk s.row + 1) d t ht h2 (by omega)

/-- A sum over names by what is met. -/
theorem Wf.names {s : Tr} {r n : Nat} (h : Wf s r n) {rk : Nat → Nat} (hd : Deep s rk) {m : Nat} (hm : rk r < m) (V : NS → Nat) (hV : V [] = 0) : sumR (fun d => (dumpB s m r).count d * V (s.nsOf d)) s.row = sumR (fun d => V (s.nsOf d)) s.row := by
  refine sumR_congr _ (fun i d hi => ?_)
  obtain ⟨t, ht, _⟩ := h.row i d hi
  rcases h.ok.kind d t ht with h1 | h1
  · rw [nsOf_some ht, h.fil d t ht h1, hV, Nat.mul_zero]
  · rw [h.visits hd hm ht h1, Nat.one_mul]

/-- A thing is met once for each of its names. -/
theorem Wf.count_cnt {s : Tr} {r n : Nat} (h : Wf s r n) {rk : Nat → Nat} (hd : Deep s rk) {m : Nat} (hm : rk r < m) {c : Nat} (hc : c ≠ r) : (dumpB s m r).count c = s.cnt c := by
  rw [h.count hd hm, if_neg (fun e => hc e.symm), Nat.zero_add, h.names hd hm (fun ns => nmc ns c) rfl]
  rfl

theorem Wf.count_root {s : Tr} {r n : Nat} (h : Wf s r n) {rk : Nat → Nat} (hd : Deep s rk) {m : Nat} (hm : rk r < m) : (dumpB s m r).count r = 1 := by
  rw [h.count hd hm, if_pos rfl, h.names hd hm (fun ns => nmc ns r) rfl]
  show 1 + s.cnt r = 1
  rw [h.top]

theorem Wf.dump_len {s : Tr} {r n : Nat} (h : Wf s r n) {rk : Nat → Nat} (hd : Deep s rk) {m : Nat} (hm : rk r < m) (p : List UInt8) : (dumpL s m p r).length = 1 + s.all := by
  obtain ⟨tr, htr, _⟩ := h.ok.dir
  have h1 := dumpB_sum hd (fun _ => 0) (fun _ => 1) (fun ns => ns.length) (fun ns => by
    induction ns with
    | nil => rfl
    | cons a q ih => rw [List.map_cons, List.sum_cons, List.length_cons, ih]; omega) m r ⟨tr, htr⟩ hm
  rw [h.met hd m (fun d => (s.nsOf d).length), h.names hd hm (fun ns => ns.length) rfl] at h1
  have h2 : (dumpL s m p r).length = (dumpB s m r).length := by
    have e := congrArg List.length (dumpL_things s m p r)
    rw [List.length_map] at e
    rw [e]
    clear e h1
    have hl := fun c => dumpB_live s m r c
    generalize dumpB s m r = L at hl
    induction L with
    | nil => rfl
    | cons a q ih =>
      obtain ⟨t, ht⟩ := hl a List.mem_cons_self
      rw [List.filterMap_cons, ht, List.length_cons, List.length_cons, ih (fun c hc => hl c (List.mem_cons_of_mem _ hc))]
  rw [h2, len_sum, h1]
  rfl

end Go.Proofs.YtknmgefpjdfenaaGreat

