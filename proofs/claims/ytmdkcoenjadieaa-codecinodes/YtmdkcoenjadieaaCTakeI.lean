/- Contracts of codec.takeInode and codec.takeDirent. -/
import Derived.Test.YtmdkcoenjadieaaCEq
import Derived.Test.YtmdkcoenjadieaaCRef
import Derived.Test.YtmdkcoenjadieaaGText
namespace Go.Proofs.Ytmdkcoenjadieaa
open Go.RowKit Go.Shelf
set_option linter.unusedVariables false
set_option maxRecDepth 100000

/-- X, but z at k. -/
def updX (X : Nat → Int) (k : Nat) (z : Int) : Nat → Int := fun j => if j = k then z else X j

theorem ic_set (X : Nat → Int) (k : Nat) (z : Int) (hk : k < 13) : (Ic X).setIfInBounds k (.int .i64 z) = Ic (updX X k z) := by
  have : k = 0 ∨ k = 1 ∨ k = 2 ∨ k = 3 ∨ k = 4 ∨ k = 5 ∨ k = 6 ∨ k = 7 ∨ k = 8 ∨ k = 9 ∨ k = 10 ∨ k = 11 ∨ k = 12 := by omega
  rcases this with rfl | rfl | rfl | rfl | rfl | rfl | rfl | rfl | rfl | rfl | rfl | rfl | rfl <;> rfl

/-- An inode's numbers but its blocks, as bytes have them. -/
def inoBase (zs : List Int) : Nat → Int
  | 0 => getVal zs 0 1
  | 1 => getVal zs 2 2
  | 2 => getVal zs 4 4
  | 11 => getVal zs 24 2
  | 12 => getVal zs 26 2
  | _ => 0

/-- With the first k blocks. -/
def inoTake (zs : List Int) : Nat → Nat → Int
  | 0 => inoBase zs
  | k + 1 => updX (inoTake zs k) (3 + k) (getVal zs (8 + 2 * (k : Int)) 2)

/-- What is found in bytes as an inode. -/
def inoOf (zs : List Int) : Nat → Int := inoTake zs 8

theorem eight {k : Nat} (hk : k < 8) : k = 0 ∨ k = 1 ∨ k = 2 ∨ k = 3 ∨ k = 4 ∨ k = 5 ∨ k = 6 ∨ k = 7 := by omega

theorem Bl.ino {u : World} {g : Nat} {zs : List Int} {k : Nat} (h : Bl u g (Ic (inoTake zs k)) 24) (hk : k < 8) : Bl (u.setCell ⟨g, 3 + k, none⟩ (.int .i64 (getVal zs (8 + 2 * (k : Int)) 2))) g (Ic (inoTake zs (k + 1))) 24 := by
  have := h.set (3 + k) (.int .i64 (getVal zs (8 + 2 * (k : Int)) 2))
  rw [ic_set _ _ _ (by omega)] at this
  exact this

set_option maxHeartbeats 8000000 in
theorem takeInode_any (a : Option Addr) (len cap : Nat) (zs : List Int) (w : World) (hr : Row w.heap.size w a len cap zs) :
    Calls Try.prog 23 #[.slice a len cap] w fun e w' => e = .returned (Iv (inoOf zs)) ∧ Below w.heap.size w w' := by
  have KG : Hid (∀ (at' n : Int) (u : World), at' ≤ 1000 → Below w.heap.size w u → Calls Try.prog 32 #[.slice a len cap, .int .i64 at', .int .i64 n] u fun e w' => e = .returned (.int .i64 (getVal zs at' n)) ∧ Below u.heap.size u w') :=
    fun at' n u h1 hb => get_drop a len cap zs at' n u (hr.below hb hb.size) (by omega)
  have HZ := hide (Bl.new w Iz 24)
  have HB := hide ((Below.refl _ w).alloc (Nat.le_refl _) (.cells Iz 24))
  clear hr
  unfold inoOf
  go_enter Try.func23, Try.ntmps23
  go_wp2_with fail
  go_at_call 32
  refine (unhide KG _ _ _ (by omega) HB.out).mono ?_
  rintro e w1 ⟨rfl, hb⟩
  replace HB := hide (bchain HB.out hb (Nat.le_refl _))
  replace HZ := hide (HZ.out.call hb)
  clear hb
  go_wp2_with fail
  go_at_call 32
  refine (unhide KG _ _ _ (by omega) HB.out).mono ?_
  rintro e w2 ⟨rfl, hb⟩
  replace HB := hide (bchain HB.out hb (Nat.le_refl _))
  replace HZ := hide (HZ.out.call hb)
  clear hb
  go_wp2_with fail
  go_at_call 32
  refine (unhide KG _ _ _ (by omega) HB.out).mono ?_
  rintro e w3 ⟨rfl, hb⟩
  replace HB := hide (bchain HB.out hb (Nat.le_refl _))
  replace HZ := hide (HZ.out.call hb)
  clear hb
  go_wp2_with fail
  go_at_call 32
  refine (unhide KG _ _ _ (by omega) HB.out).mono ?_
  rintro e w4 ⟨rfl, hb⟩
  replace HB := hide (bchain HB.out hb (Nat.le_refl _))
  replace HZ := hide (HZ.out.call hb)
  clear hb
  go_wp2_with fail
  go_at_call 32
  refine (unhide KG _ _ _ (by omega) HB.out).mono ?_
  rintro e w5 ⟨rfl, hb⟩
  replace HB := hide (bchain HB.out hb (Nat.le_refl _))
  replace HZ := hide (HZ.out.call hb)
  clear hb
  have HZ0 := hide HZ.out
  replace HB := hide (HB.out.alloc HB.out.size (.cells (Ic (inoTake zs 0)) 24))
  replace HZ := hide (HZ.out.alloc (.cells (Ic (inoTake zs 0)) 24))
  have HV := hide (Bl.new w5 (Ic (inoTake zs 0)) 24)
  have hg : Hid (w.heap.size < w5.heap.size) := by
    exact HZ0.out.lt
  clear HZ0
  go_upto_region 2 with fail
  change Code.wp _ _ _ _ (w5.alloc (.cells (Ic (inoTake zs 0)) 24))
  generalize w5.alloc (.cells (Ic (inoTake zs 0)) 24) = W at *
  generalize w5.heap.size = g1 at *
  go_upto_region 3 with fail
  go_loopw [16] (fun i wr => ∃ k : Nat, k ≤ 8 ∧ i = .int .i64 (k : Int) ∧ Hid (Bl wr g1 (Ic (inoTake zs k)) 24) ∧ Hid (Bl wr w.heap.size Iz 24) ∧ Hid (Below w.heap.size w wr)) (fun i _ => 8 - (intOf i).toNat)
  case atStart => exact ⟨0, by omega, rfl, HV, HZ, HB⟩
  case round =>
    obtain ⟨k, hk, rfl, hV, hZ, hB⟩ := hrel
    clear HV HZ HB
    by_cases hlt : k < 8
    · have HX : Hid (∀ w2, Below wr.heap.size wr w2 → Bl (w2.setCell ⟨g1, 3 + k, none⟩ (.int .i64 (getVal zs (8 + 2 * (k : Int)) 2))) g1 (Ic (inoTake zs (k + 1))) 24 ∧ Bl (w2.setCell ⟨g1, 3 + k, none⟩ (.int .i64 (getVal zs (8 + 2 * (k : Int)) 2))) w.heap.size Iz 24 ∧ Below w.heap.size w (w2.setCell ⟨g1, 3 + k, none⟩ (.int .i64 (getVal zs (8 + 2 * (k : Int)) 2)))) := fun w2 hb =>
        ⟨(hV.out.call hb).ino hlt, (hZ.out.call hb).other _ _ (by have := hg.out; simp; omega), (bchain hB.out hb (Nat.le_refl _)).setCell (by have := hg.out; simp; omega) _⟩
      have HC : Hid (∀ w2, Below wr.heap.size wr w2 → (∃ v, w2.cell? ⟨g1, 3 + k, none⟩ = some (.int .i64 v)) ∧ ∀ i, w2.frozen? ⟨g1, i, none⟩ = false) := fun w2 hb =>
        ⟨⟨_, (hV.out.call hb).cell (3 + k) _ (ic_get _ _ (by omega))⟩, (hV.out.call hb).free⟩
      rcases eight hlt with rfl | rfl | rfl | rfl | rfl | rfl | rfl | rfl
      all_goals
        go_wp2_with fail
        go_at_call 32
        refine (unhide KG _ _ _ (by omega) hB.out).mono ?_
        rintro e w2 ⟨rfl, hb⟩
        obtain ⟨⟨v, hc⟩, hz⟩ := HC.out w2 hb
        obtain ⟨x1, x2, x3⟩ := HX.out w2 hb
        have X1 := hide x1
        have X2 := hide x2
        have X3 := hide x3
        clear hb HC HX x1 x2 x3 hV hZ hB
        go_wp2_with fail
        exact ⟨⟨_, by decide, rfl, X1, X2, X3⟩, by simp [intOf]⟩
    · obtain rfl : k = 8 := by omega
      have HZ := hide hZ.out
      have HB := hide hB.out
      generalize hX : inoTake zs 8 = X at *
      have HX := hide hX
      clear hX
      have v0 := hV.out.cell 0 _ rfl
      have v1 := hV.out.cell 1 _ rfl
      have v2 := hV.out.cell 2 _ rfl
      have v3 := hV.out.cell 3 _ rfl
      have v4 := hV.out.cell 4 _ rfl
      have v5 := hV.out.cell 5 _ rfl
      have v6 := hV.out.cell 6 _ rfl
      have v7 := hV.out.cell 7 _ rfl
      have v8 := hV.out.cell 8 _ rfl
      have v9 := hV.out.cell 9 _ rfl
      have v10 := hV.out.cell 10 _ rfl
      have v11 := hV.out.cell 11 _ rfl
      have v12 := hV.out.cell 12 _ rfl
      have z0 := HZ.out.cell 0 _ rfl
      have z1 := HZ.out.cell 1 _ rfl
      have z2 := HZ.out.cell 2 _ rfl
      have z3 := HZ.out.cell 3 _ rfl
      have z4 := HZ.out.cell 4 _ rfl
      have z5 := HZ.out.cell 5 _ rfl
      have z6 := HZ.out.cell 6 _ rfl
      have z7 := HZ.out.cell 7 _ rfl
      have z8 := HZ.out.cell 8 _ rfl
      have z9 := HZ.out.cell 9 _ rfl
      have z10 := HZ.out.cell 10 _ rfl
      have z11 := HZ.out.cell 11 _ rfl
      have z12 := HZ.out.cell 12 _ rfl
      have hz := HZ.out.free
      clear KG
      go_wp2_with fail
      have hW : Below w.heap.size w (setAll wr w.heap.size 0 [.int .i64 (X 0), .int .i64 (X 1), .int .i64 (X 2), .int .i64 (X 3), .int .i64 (X 4), .int .i64 (X 5), .int .i64 (X 6), .int .i64 (X 7), .int .i64 (X 8), .int .i64 (X 9), .int .i64 (X 10), .int .i64 (X 11), .int .i64 (X 12)]) := below_setAll (Nat.le_refl _) _ _ _ _ HB.out
      have hA : Bl (setAll wr w.heap.size 0 [.int .i64 (X 0), .int .i64 (X 1), .int .i64 (X 2), .int .i64 (X 3), .int .i64 (X 4), .int .i64 (X 5), .int .i64 (X 6), .int .i64 (X 7), .int .i64 (X 8), .int .i64 (X 9), .int .i64 (X 10), .int .i64 (X 11), .int .i64 (X 12)]) w.heap.size #[.int .i64 (X 0), .int .i64 (X 1), .int .i64 (X 2), .int .i64 (X 3), .int .i64 (X 4), .int .i64 (X 5), .int .i64 (X 6), .int .i64 (X 7), .int .i64 (X 8), .int .i64 (X 9), .int .i64 (X 10), .int .i64 (X 11), .int .i64 (X 12)] 24 := setAll_whole [.int .i64 (X 0), .int .i64 (X 1), .int .i64 (X 2), .int .i64 (X 3), .int .i64 (X 4), .int .i64 (X 5), .int .i64 (X 6), .int .i64 (X 7), .int .i64 (X 8), .int .i64 (X 9), .int .i64 (X 10), .int .i64 (X 11), .int .i64 (X 12)] _ _ HZ.out rfl
      change bodyPost _ _ _ _ _ (setAll wr w.heap.size 0 [.int .i64 (X 0), .int .i64 (X 1), .int .i64 (X 2), .int .i64 (X 3), .int .i64 (X 4), .int .i64 (X 5), .int .i64 (X 6), .int .i64 (X 7), .int .i64 (X 8), .int .i64 (X 9), .int .i64 (X 10), .int .i64 (X 11), .int .i64 (X 12)])
      generalize setAll wr w.heap.size 0 [.int .i64 (X 0), .int .i64 (X 1), .int .i64 (X 2), .int .i64 (X 3), .int .i64 (X 4), .int .i64 (X 5), .int .i64 (X 6), .int .i64 (X 7), .int .i64 (X 8), .int .i64 (X 9), .int .i64 (X 10), .int .i64 (X 11), .int .i64 (X 12)] = wf at *
      refine bodyPost_ret (v := Iv X) ?_ rfl ⟨by first | rfl | rw [HX.out], hW⟩
      simp [results, Try.results23, go_sem, hA.cell 0 _ rfl, hA.cell 1 _ rfl, hA.cell 2 _ rfl, hA.cell 3 _ rfl, hA.cell 4 _ rfl, hA.cell 5 _ rfl, hA.cell 6 _ rfl, hA.cell 7 _ rfl, hA.cell 8 _ rfl, hA.cell 9 _ rfl, hA.cell 10 _ rfl, hA.cell 11 _ rfl, hA.cell 12 _ rfl]

set_option maxHeartbeats 4000000 in
theorem takeDirent_any (a : Option Addr) (len cap : Nat) (zs : List Int) (w : World) (hr : Row w.heap.size w a len cap zs) :
    Calls Try.prog 27 #[.slice a len cap] w fun e w' => e = .returned (Dv (getVal zs 0 2) (textVal zs 2 13)) ∧ Below w.heap.size w w' := by
  have KG : Hid (∀ (at' n : Int) (u : World), at' ≤ 1000 → Below w.heap.size w u → Calls Try.prog 32 #[.slice a len cap, .int .i64 at', .int .i64 n] u fun e w' => e = .returned (.int .i64 (getVal zs at' n)) ∧ Below u.heap.size u w') :=
    fun at' n u h1 hb => get_drop a len cap zs at' n u (hr.below hb hb.size) (by omega)
  have KT : Hid (∀ u, Below w.heap.size w u → Calls Try.prog 34 #[.slice a len cap, .int .i64 2, .int .i64 13] u fun e w' => ∃ q, e = .returned (.tuple #[.string (textVal zs 2 13), .int .i64 q]) ∧ Below u.heap.size u w') :=
    fun u hb => (text_any a len cap zs 2 13 u (hr.below hb hb.size).has hr.2.1 hr.2.2.1.1 (by omega) (by omega)).mono fun e w' ⟨h1, h2⟩ => ⟨_, h1, h2 ▸ Below.refl _ _⟩
  have HZ := hide (Bl.new w #[.int .i64 0, .string ⟨#[]⟩] 26)
  have HB := hide ((Below.refl _ w).alloc (Nat.le_refl _) (.cells #[.int .i64 0, .string ⟨#[]⟩] 26))
  clear hr
  generalize textVal zs 2 13 = S at *
  go_enter Try.func27, Try.ntmps27
  go_wp2_with fail
  go_at_call 34
  refine (unhide KT _ HB.out).mono ?_
  rintro e w1 ⟨q, rfl, hb⟩
  replace HB := hide (bchain HB.out hb (Nat.le_refl _))
  replace HZ := hide (HZ.out.call hb)
  clear hb KT
  go_wp2_with fail
  go_at_call 32
  refine (unhide KG _ _ _ (by omega) HB.out).mono ?_
  rintro e w2 ⟨rfl, hb⟩
  replace HB := hide (bchain HB.out hb (Nat.le_refl _))
  replace HZ := hide (HZ.out.call hb)
  clear hb
  have z0 := HZ.out.cell 0 _ rfl
  have z1 := HZ.out.cell 1 _ rfl
  have hz := HZ.out.free
  clear KG
  go_wp2_with fail
  have hW : Below w.heap.size w (setAll w2 w.heap.size 0 [.int .i64 (getVal zs 0 2), .string S]) := below_setAll (Nat.le_refl _) _ _ _ _ HB.out
  have hA : Bl (setAll w2 w.heap.size 0 [.int .i64 (getVal zs 0 2), .string S]) w.heap.size #[.int .i64 (getVal zs 0 2), .string S] 26 := setAll_whole [.int .i64 (getVal zs 0 2), .string S] _ _ HZ.out rfl
  change bodyPost _ _ _ _ _ (setAll w2 w.heap.size 0 [.int .i64 (getVal zs 0 2), .string S])
  generalize setAll w2 w.heap.size 0 [.int .i64 (getVal zs 0 2), .string S] = wf at *
  refine bodyPost_ret (v := Dv (getVal zs 0 2) S) ?_ rfl ⟨by first | rfl | rw [HX.out], hW⟩
  simp [results, Try.results27, go_sem, hA.cell 0 _ rfl, hA.cell 1 _ rfl]

end Go.Proofs.Ytmdkcoenjadieaa
