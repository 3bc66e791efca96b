/- Joined: CTakeI, CUnI. -/
import Derived.Test.YtmdkcoenjadieaaDoorWCEq
import Derived.Test.YtmdkcoenjadieaaDoorWJ26
import Derived.Test.YtmdkcoenjadieaaDoorWJ12
import Derived.Test.YtmdkcoenjadieaaDoorWCReadI
import Derived.Test.YtmdkcoenjadieaaDoorWJ44
import Derived.Test.YtmdkcoenjadieaaDoorWJ32
/- Contracts of codec.takeInode and codec.takeDirent. -/
namespace Go.Proofs.YtmdkcoenjadieaaDoor
open Go.RowKit Go.Shelf
set_option linter.unusedVariables false
set_option maxRecDepth 100000

/-- X, but z at k. -/
def updX (X : Nat → Int) (k : Nat) (z : Int) : Nat → Int := fun j => if j = k then z else X j

theorem ic_set (X : Nat → Int) (k : Nat) (z : Int) (hk : k < 13) : (Ic X).setIfInBounds k (.int .i64 z) = Ic (updX X k z) := by
  have : k = 0 ∨ k = 1 ∨ k = 2 ∨ k = 3 ∨ k = 4 ∨ k = 5 ∨ k = 6 ∨ k = 7 ∨ k = 8 ∨ k = 9 ∨ k = 10 ∨ k = 11 ∨ k = 12 := by omega
  rcases this with rfl | rfl | rfl | rfl | rfl | rfl | rfl | rfl | rfl | rfl | rfl | rfl | rfl <;> rfl

/-- An inode's numbers but its blocks, as bytes have them. -/
def inoBase (zs : List Int) : Nat → Int
  | 0 => getVal zs 0 1
  | 1 => getVal zs 2 2
  | 2 => getVal zs 4 4
  | 11 => getVal zs 24 2
  | 12 => getVal zs 26 2
  | _ => 0

/-- With the first k blocks. -/
def inoTake (zs : List Int) : Nat → Nat → Int
  | 0 => inoBase zs
  | k + 1 => updX (inoTake zs k) (3 + k) (getVal zs (8 + 2 * (k : Int)) 2)

/-- What is found in bytes as an inode. -/
def inoOf (zs : List Int) : Nat → Int := inoTake zs 8

theorem eight {k : Nat} (hk : k < 8) : k = 0 ∨ k = 1 ∨ k = 2 ∨ k = 3 ∨ k = 4 ∨ k = 5 ∨ k = 6 ∨ k = 7 := by omega

theorem Bl.ino {u : World} {g : Nat} {zs : List Int} {k : Nat} (h : Bl u g (Ic (inoTake zs k)) 55) (hk : k < 8) : Bl (u.setCell ⟨g, 3 + k, none⟩ (.int .i64 (getVal zs (8 + 2 * (k : Int)) 2))) g (Ic (inoTake zs (k + 1))) 55 := by
  have := h.set (3 + k) (.int .i64 (getVal zs (8 + 2 * (k : Int)) 2))
  rw [ic_set _ _ _ (by omega)] at this
  exact this

set_option maxHeartbeats 8000000 in
theorem takeInode_any (a : Option Addr) (len cap : Nat) (zs : List Int) (w : World) (hr : Row w.heap.size w a len cap zs) :
    Calls Tryd.prog 65 #[.slice a len cap] w fun e w' => e = .returned (Iv (inoOf zs)) ∧ Below w.heap.size w w' := by
  have KG : Hid (∀ (at' n : Int) (u : World), at' ≤ 1000 → Below w.heap.size w u → Calls Tryd.prog 74 #[.slice a len cap, .int .i64 at', .int .i64 n] u fun e w' => e = .returned (.int .i64 (getVal zs at' n)) ∧ Below u.heap.size u w') :=
    fun at' n u h1 hb => get_drop a len cap zs at' n u (hr.below hb hb.size) (by omega)
  have HZ := hide (Bl.new w Iz 55)
  have HB := hide ((Below.refl _ w).alloc (Nat.le_refl _) (.cells Iz 55))
  clear hr
  unfold inoOf
  go_enter Tryd.func65, Tryd.ntmps65
  go_wp2_with fail
  go_at_call 74
  refine (unhide KG _ _ _ (by omega) HB.out).mono ?_
  rintro e w1 ⟨rfl, hb⟩
  replace HB := hide (bchain HB.out hb (Nat.le_refl _))
  replace HZ := hide (HZ.out.call hb)
  clear hb
  go_wp2_with fail
  go_at_call 74
  refine (unhide KG _ _ _ (by omega) HB.out).mono ?_
  rintro e w2 ⟨rfl, hb⟩
  replace HB := hide (bchain HB.out hb (Nat.le_refl _))
  replace HZ := hide (HZ.out.call hb)
  clear hb
  go_wp2_with fail
  go_at_call 74
  refine (unhide KG _ _ _ (by omega) HB.out).mono ?_
  rintro e w3 ⟨rfl, hb⟩
  replace HB := hide (bchain HB.out hb (Nat.le_refl _))
  replace HZ := hide (HZ.out.call hb)
  clear hb
  go_wp2_with fail
  go_at_call 74
  refine (unhide KG _ _ _ (by omega) HB.out).mono ?_
  rintro e w4 ⟨rfl, hb⟩
  replace HB := hide (bchain HB.out hb (Nat.le_refl _))
  replace HZ := hide (HZ.out.call hb)
  clear hb
  go_wp2_with fail
  go_at_call 74
  refine (unhide KG _ _ _ (by omega) HB.out).mono ?_
  rintro e w5 ⟨rfl, hb⟩
  replace HB := hide (bchain HB.out hb (Nat.le_refl _))
  replace HZ := hide (HZ.out.call hb)
  clear hb
  have HZ0 := hide HZ.out
  replace HB := hide (HB.out.alloc HB.out.size (.cells (Ic (inoTake zs 0)) 55))
  replace HZ := hide (HZ.out.alloc (.cells (Ic (inoTake zs 0)) 55))
  have HV := hide (Bl.new w5 (Ic (inoTake zs 0)) 55)
  have hg : Hid (w.heap.size < w5.heap.size) := by
    exact HZ0.out.lt
  clear HZ0
  go_upto_region 2 with fail
  change Code.wp _ _ _ _ (w5.alloc (.cells (Ic (inoTake zs 0)) 55))
  generalize w5.alloc (.cells (Ic (inoTake zs 0)) 55) = W at *
  generalize w5.heap.size = g1 at *
  go_upto_region 3 with fail
  go_loopw [16] (fun i wr => ∃ k : Nat, k ≤ 8 ∧ i = .int .i64 (k : Int) ∧ Hid (Bl wr g1 (Ic (inoTake zs k)) 55) ∧ Hid (Bl wr w.heap.size Iz 55) ∧ Hid (Below w.heap.size w wr)) (fun i _ => 8 - (intOf i).toNat)
  case atStart => exact ⟨0, by omega, rfl, HV, HZ, HB⟩
  case round =>
    obtain ⟨k, hk, rfl, hV, hZ, hB⟩ := hrel
    clear HV HZ HB
    by_cases hlt : k < 8
    · have HX : Hid (∀ w2, Below wr.heap.size wr w2 → Bl (w2.setCell ⟨g1, 3 + k, none⟩ (.int .i64 (getVal zs (8 + 2 * (k : Int)) 2))) g1 (Ic (inoTake zs (k + 1))) 55 ∧ Bl (w2.setCell ⟨g1, 3 + k, none⟩ (.int .i64 (getVal zs (8 + 2 * (k : Int)) 2))) w.heap.size Iz 55 ∧ Below w.heap.size w (w2.setCell ⟨g1, 3 + k, none⟩ (.int .i64 (getVal zs (8 + 2 * (k : Int)) 2)))) := fun w2 hb =>
        ⟨(hV.out.call hb).ino hlt, (hZ.out.call hb).other _ _ (by have := hg.out; simp; omega), (bchain hB.out hb (Nat.le_refl _)).setCell (by have := hg.out; simp; omega) _⟩
      have HC : Hid (∀ w2, Below wr.heap.size wr w2 → (∃ v, w2.cell? ⟨g1, 3 + k, none⟩ = some (.int .i64 v)) ∧ ∀ i, w2.frozen? ⟨g1, i, none⟩ = false) := fun w2 hb =>
        ⟨⟨_, (hV.out.call hb).cell (3 + k) _ (ic_get _ _ (by omega))⟩, (hV.out.call hb).free⟩
      rcases eight hlt with rfl | rfl | rfl | rfl | rfl | rfl | rfl | rfl
      all_goals
        go_wp2_with fail
        go_at_call 74
        refine (unhide KG _ _ _ (by omega) hB.out).mono ?_
        rintro e w2 ⟨rfl, hb⟩
        obtain ⟨⟨v, hc⟩, hz⟩ := HC.out w2 hb
        obtain ⟨x1, x2, x3⟩ := HX.out w2 hb
        have X1 := hide x1
        have X2 := hide x2
        have X3 := hide x3
        clear hb HC HX x1 x2 x3 hV hZ hB
        go_wp2_with fail
        exact ⟨⟨_, by decide, rfl, X1, X2, X3⟩, by simp [intOf]⟩
    · obtain rfl : k = 8 := by omega
      have HZ := hide hZ.out
      have HB := hide hB.out
      generalize hX : inoTake zs 8 = X at *
      have HX := hide hX
      clear hX
      have v0 := hV.out.cell 0 _ rfl
      have v1 := hV.out.cell 1 _ rfl
      have v2 := hV.out.cell 2 _ rfl
      have v3 := hV.out.cell 3 _ rfl
      have v4 := hV.out.cell 4 _ rfl
      have v5 := hV.out.cell 5 _ rfl
      have v6 := hV.out.cell 6 _ rfl
      have v7 := hV.out.cell 7 _ rfl
      have v8 := hV.out.cell 8 _ rfl
      have v9 := hV.out.cell 9 _ rfl
      have v10 := hV.out.cell 10 _ rfl
      have v11 := hV.out.cell 11 _ rfl
      have v12 := hV.out.cell 12 _ rfl
      have z0 := HZ.out.cell 0 _ rfl
      have z1 := HZ.out.cell 1 _ rfl
      have z2 := HZ.out.cell 2 _ rfl
      have z3 := HZ.out.cell 3 _ rfl
      have z4 := HZ.out.cell 4 _ rfl
      have z5 := HZ.out.cell 5 _ rfl
      have z6 := HZ.out.cell 6 _ rfl
      have z7 := HZ.out.cell 7 _ rfl
      have z8 := HZ.out.cell 8 _ rfl
      have z9 := HZ.out.cell 9 _ rfl
      have z10 := HZ.out.cell 10 _ rfl
      have z11 := HZ.out.cell 11 _ rfl
      have z12 := HZ.out.cell 12 _ rfl
      have hz := HZ.out.free
      clear KG
      go_wp2_with fail
      have hW : Below w.heap.size w (setAll wr w.heap.size 0 [.int .i64 (X 0), .int .i64 (X 1), .int .i64 (X 2), .int .i64 (X 3), .int .i64 (X 4), .int .i64 (X 5), .int .i64 (X 6), .int .i64 (X 7), .int .i64 (X 8), .int .i64 (X 9), .int .i64 (X 10), .int .i64 (X 11), .int .i64 (X 12)]) := below_setAll (Nat.le_refl _) _ _ _ _ HB.out
      have hA : Bl (setAll wr w.heap.size 0 [.int .i64 (X 0), .int .i64 (X 1), .int .i64 (X 2), .int .i64 (X 3), .int .i64 (X 4), .int .i64 (X 5), .int .i64 (X 6), .int .i64 (X 7), .int .i64 (X 8), .int .i64 (X 9), .int .i64 (X 10), .int .i64 (X 11), .int .i64 (X 12)]) w.heap.size #[.int .i64 (X 0), .int .i64 (X 1), .int .i64 (X 2), .int .i64 (X 3), .int .i64 (X 4), .int .i64 (X 5), .int .i64 (X 6), .int .i64 (X 7), .int .i64 (X 8), .int .i64 (X 9), .int .i64 (X 10), .int .i64 (X 11), .int .i64 (X 12)] 55 := setAll_whole [.int .i64 (X 0), .int .i64 (X 1), .int .i64 (X 2), .int .i64 (X 3), .int .i64 (X 4), .int .i64 (X 5), .int .i64 (X 6), .int .i64 (X 7), .int .i64 (X 8), .int .i64 (X 9), .int .i64 (X 10), .int .i64 (X 11), .int .i64 (X 12)] _ _ HZ.out rfl
      change bodyPost _ _ _ _ _ (setAll wr w.heap.size 0 [.int .i64 (X 0), .int .i64 (X 1), .int .i64 (X 2), .int .i64 (X 3), .int .i64 (X 4), .int .i64 (X 5), .int .i64 (X 6), .int .i64 (X 7), .int .i64 (X 8), .int .i64 (X 9), .int .i64 (X 10), .int .i64 (X 11), .int .i64 (X 12)])
      generalize setAll wr w.heap.size 0 [.int .i64 (X 0), .int .i64 (X 1), .int .i64 (X 2), .int .i64 (X 3), .int .i64 (X 4), .int .i64 (X 5), .int .i64 (X 6), .int .i64 (X 7), .int .i64 (X 8), .int .i64 (X 9), .int .i64 (X 10), .int .i64 (X 11), .int .i64 (X 12)] = wf at *
      refine bodyPost_ret (v := Iv X) ?_ rfl ⟨by first | rfl | rw [HX.out], hW⟩
      simp [results, Tryd.results65, go_sem, hA.cell 0 _ rfl, hA.cell 1 _ rfl, hA.cell 2 _ rfl, hA.cell 3 _ rfl, hA.cell 4 _ rfl, hA.cell 5 _ rfl, hA.cell 6 _ rfl, hA.cell 7 _ rfl, hA.cell 8 _ rfl, hA.cell 9 _ rfl, hA.cell 10 _ rfl, hA.cell 11 _ rfl, hA.cell 12 _ rfl]

set_option maxHeartbeats 4000000 in
theorem takeDirent_any (a : Option Addr) (len cap : Nat) (zs : List Int) (w : World) (hr : Row w.heap.size w a len cap zs) :
    Calls Tryd.prog 67 #[.slice a len cap] w fun e w' => e = .returned (Dv (getVal zs 0 2) (textVal zs 2 13)) ∧ Below w.heap.size w w' := by
  have KG : Hid (∀ (at' n : Int) (u : World), at' ≤ 1000 → Below w.heap.size w u → Calls Tryd.prog 74 #[.slice a len cap, .int .i64 at', .int .i64 n] u fun e w' => e = .returned (.int .i64 (getVal zs at' n)) ∧ Below u.heap.size u w') :=
    fun at' n u h1 hb => get_drop a len cap zs at' n u (hr.below hb hb.size) (by omega)
  have KT : Hid (∀ u, Below w.heap.size w u → Calls Tryd.prog 80 #[.slice a len cap, .int .i64 2, .int .i64 13] u fun e w' => ∃ q, e = .returned (.tuple #[.string (textVal zs 2 13), .int .i64 q]) ∧ Below u.heap.size u w') :=
    fun u hb => (text_any a len cap zs 2 13 u (hr.below hb hb.size).has hr.2.1 hr.2.2.1.1 (by omega) (by omega)).mono fun e w' ⟨h1, h2⟩ => ⟨_, h1, h2 ▸ Below.refl _ _⟩
  have HZ := hide (Bl.new w #[.int .i64 0, .string ⟨#[]⟩] 60)
  have HB := hide ((Below.refl _ w).alloc (Nat.le_refl _) (.cells #[.int .i64 0, .string ⟨#[]⟩] 60))
  clear hr
  generalize textVal zs 2 13 = S at *
  go_enter Tryd.func67, Tryd.ntmps67
  go_wp2_with fail
  go_at_call 80
  refine (unhide KT _ HB.out).mono ?_
  rintro e w1 ⟨q, rfl, hb⟩
  replace HB := hide (bchain HB.out hb (Nat.le_refl _))
  replace HZ := hide (HZ.out.call hb)
  clear hb KT
  go_wp2_with fail
  go_at_call 74
  refine (unhide KG _ _ _ (by omega) HB.out).mono ?_
  rintro e w2 ⟨rfl, hb⟩
  replace HB := hide (bchain HB.out hb (Nat.le_refl _))
  replace HZ := hide (HZ.out.call hb)
  clear hb
  have z0 := HZ.out.cell 0 _ rfl
  have z1 := HZ.out.cell 1 _ rfl
  have hz := HZ.out.free
  clear KG
  go_wp2_with fail
  have hW : Below w.heap.size w (setAll w2 w.heap.size 0 [.int .i64 (getVal zs 0 2), .string S]) := below_setAll (Nat.le_refl _) _ _ _ _ HB.out
  have hA : Bl (setAll w2 w.heap.size 0 [.int .i64 (getVal zs 0 2), .string S]) w.heap.size #[.int .i64 (getVal zs 0 2), .string S] 60 := setAll_whole [.int .i64 (getVal zs 0 2), .string S] _ _ HZ.out rfl
  change bodyPost _ _ _ _ _ (setAll w2 w.heap.size 0 [.int .i64 (getVal zs 0 2), .string S])
  generalize setAll w2 w.heap.size 0 [.int .i64 (getVal zs 0 2), .string S] = wf at *
  refine bodyPost_ret (v := Dv (getVal zs 0 2) S) ?_ rfl ⟨by first | rfl | rw [HX.out], hW⟩
  simp [results, Tryd.results67, go_sem, hA.cell 0 _ rfl, hA.cell 1 _ rfl]

end Go.Proofs.YtmdkcoenjadieaaDoor

/- Contracts of codec.Uninode and codec.Undirent. -/
namespace Go.Proofs.YtmdkcoenjadieaaDoor
open Go.RowKit Go.Shelf
set_option linter.unusedVariables false
set_option maxRecDepth 100000

set_option maxHeartbeats 4000000 in
theorem uninode_w (X : Nat → Int) (q : Int) (a : Option Addr) (len cap : Nat) (w : World) (K : Hid (∀ u, Below w.heap.size w u → Calls Tryd.prog 64 #[.slice a len cap, .func (.func 65) #[] #[], .func (.func 27) #[] #[]] u fun e w' => e = .returned (.tuple #[Iv X, .int .i64 q]) ∧ Below u.heap.size u w')) :
    Calls Tryd.prog 28 #[.slice a len cap] w fun e w' => e = .returned (.tuple #[Iv X, .int .i64 q]) ∧ Below w.heap.size w w' := by
  have HZ := hide (Bl.new w Iz 55)
  have HB := hide ((Below.refl _ w).alloc (Nat.le_refl _) (.cells Iz 55))
  go_enter Tryd.func28, Tryd.ntmps28
  go_wp2_with fail
  go_at_call 64
  refine (unhide K _ HB.out).mono ?_
  rintro e w1 ⟨rfl, hb⟩
  replace HB := hide (bchain HB.out hb (Nat.le_refl _))
  replace HZ := hide (HZ.out.call hb)
  clear hb K
  have z0 := HZ.out.cell 0 _ rfl
  have z1 := HZ.out.cell 1 _ rfl
  have z2 := HZ.out.cell 2 _ rfl
  have z3 := HZ.out.cell 3 _ rfl
  have z4 := HZ.out.cell 4 _ rfl
  have z5 := HZ.out.cell 5 _ rfl
  have z6 := HZ.out.cell 6 _ rfl
  have z7 := HZ.out.cell 7 _ rfl
  have z8 := HZ.out.cell 8 _ rfl
  have z9 := HZ.out.cell 9 _ rfl
  have z10 := HZ.out.cell 10 _ rfl
  have z11 := HZ.out.cell 11 _ rfl
  have z12 := HZ.out.cell 12 _ rfl
  have hz := HZ.out.free
  go_wp2_with fail
  have hW : Below w.heap.size w (setAll w1 w.heap.size 0 [.int .i64 (X 0), .int .i64 (X 1), .int .i64 (X 2), .int .i64 (X 3), .int .i64 (X 4), .int .i64 (X 5), .int .i64 (X 6), .int .i64 (X 7), .int .i64 (X 8), .int .i64 (X 9), .int .i64 (X 10), .int .i64 (X 11), .int .i64 (X 12)]) := below_setAll (Nat.le_refl _) _ _ _ _ HB.out
  have hA : Bl (setAll w1 w.heap.size 0 [.int .i64 (X 0), .int .i64 (X 1), .int .i64 (X 2), .int .i64 (X 3), .int .i64 (X 4), .int .i64 (X 5), .int .i64 (X 6), .int .i64 (X 7), .int .i64 (X 8), .int .i64 (X 9), .int .i64 (X 10), .int .i64 (X 11), .int .i64 (X 12)]) w.heap.size #[.int .i64 (X 0), .int .i64 (X 1), .int .i64 (X 2), .int .i64 (X 3), .int .i64 (X 4), .int .i64 (X 5), .int .i64 (X 6), .int .i64 (X 7), .int .i64 (X 8), .int .i64 (X 9), .int .i64 (X 10), .int .i64 (X 11), .int .i64 (X 12)] 55 := setAll_whole [.int .i64 (X 0), .int .i64 (X 1), .int .i64 (X 2), .int .i64 (X 3), .int .i64 (X 4), .int .i64 (X 5), .int .i64 (X 6), .int .i64 (X 7), .int .i64 (X 8), .int .i64 (X 9), .int .i64 (X 10), .int .i64 (X 11), .int .i64 (X 12)] _ _ HZ.out rfl
  change bodyPost _ _ _ _ _ (setAll w1 w.heap.size 0 [.int .i64 (X 0), .int .i64 (X 1), .int .i64 (X 2), .int .i64 (X 3), .int .i64 (X 4), .int .i64 (X 5), .int .i64 (X 6), .int .i64 (X 7), .int .i64 (X 8), .int .i64 (X 9), .int .i64 (X 10), .int .i64 (X 11), .int .i64 (X 12)])
  generalize setAll w1 w.heap.size 0 [.int .i64 (X 0), .int .i64 (X 1), .int .i64 (X 2), .int .i64 (X 3), .int .i64 (X 4), .int .i64 (X 5), .int .i64 (X 6), .int .i64 (X 7), .int .i64 (X 8), .int .i64 (X 9), .int .i64 (X 10), .int .i64 (X 11), .int .i64 (X 12)] = wf at *
  refine bodyPost_ret (v := .tuple #[Iv X, .int .i64 q]) ?_ rfl ⟨by first | rfl | rw [HX.out], hW⟩
  simp [results, Tryd.results28, go_sem, hA.cell 0 _ rfl, hA.cell 1 _ rfl, hA.cell 2 _ rfl, hA.cell 3 _ rfl, hA.cell 4 _ rfl, hA.cell 5 _ rfl, hA.cell 6 _ rfl, hA.cell 7 _ rfl, hA.cell 8 _ rfl, hA.cell 9 _ rfl, hA.cell 10 _ rfl, hA.cell 11 _ rfl, hA.cell 12 _ rfl]

set_option maxHeartbeats 4000000 in
theorem undirent_w (i : Int) (s : ByteArray) (q : Int) (a : Option Addr) (len cap : Nat) (w : World) (K : Hid (∀ u, Below w.heap.size w u → Calls Tryd.prog 66 #[.slice a len cap, .func (.func 67) #[] #[], .func (.func 30) #[] #[]] u fun e w' => e = .returned (.tuple #[Dv i s, .int .i64 q]) ∧ Below u.heap.size u w')) :
    Calls Tryd.prog 29 #[.slice a len cap] w fun e w' => e = .returned (.tuple #[Dv i s, .int .i64 q]) ∧ Below w.heap.size w w' := by
  have HZ := hide (Bl.new w #[.int .i64 0, .string ⟨#[]⟩] 60)
  have HB := hide ((Below.refl _ w).alloc (Nat.le_refl _) (.cells #[.int .i64 0, .string ⟨#[]⟩] 60))
  go_enter Tryd.func29, Tryd.ntmps29
  go_wp2_with fail
  go_at_call 66
  refine (unhide K _ HB.out).mono ?_
  rintro e w1 ⟨rfl, hb⟩
  replace HB := hide (bchain HB.out hb (Nat.le_refl _))
  replace HZ := hide (HZ.out.call hb)
  clear hb K
  have z0 := HZ.out.cell 0 _ rfl
  have z1 := HZ.out.cell 1 _ rfl
  have hz := HZ.out.free
  go_wp2_with fail
  have hW : Below w.heap.size w (setAll w1 w.heap.size 0 [.int .i64 i, .string s]) := below_setAll (Nat.le_refl _) _ _ _ _ HB.out
  have hA : Bl (setAll w1 w.heap.size 0 [.int .i64 i, .string s]) w.heap.size #[.int .i64 i, .string s] 60 := setAll_whole [.int .i64 i, .string s] _ _ HZ.out rfl
  change bodyPost _ _ _ _ _ (setAll w1 w.heap.size 0 [.int .i64 i, .string s])
  generalize setAll w1 w.heap.size 0 [.int .i64 i, .string s] = wf at *
  refine bodyPost_ret (v := .tuple #[Dv i s, .int .i64 q]) ?_ rfl ⟨by first | rfl | rw [HX.out], hW⟩
  simp [results, Tryd.results29, go_sem, hA.cell 0 _ rfl, hA.cell 1 _ rfl]

/-- Are these bytes an inode's? -/
def inoIs (zs : List Int) : Prop := inoBad (inoOf zs) = false ∧ inoF (inoOf zs) = true ∧ layB 32 (inoL (inoOf zs)) = zs

theorem ino32 (X : Nat → Int) : ∀ z ∈ layB 32 (inoL X), 0 ≤ z ∧ z ≤ 255 := layB_byte _ _ (inoL_byts X)

/-- **codec.Uninode**, of an inode's bytes. -/
theorem uninode_yes (a : Option Addr) (len cap : Nat) (zs : List Int) (w : World) (hr : Row w.heap.size w a len cap zs) (h : inoIs zs) :
    Calls Tryd.prog 28 #[.slice a len cap] w fun e w' => e = .returned (.tuple #[Iv (inoOf zs), .int .i64 0]) ∧ Below w.heap.size w w' := by
  refine uninode_w (inoOf zs) 0 a len cap w fun u hb => ?_
  have hru := hr.below hb hb.size
  refine readI_same (inoOf zs) a len cap u zs zs hru.has hr.2.2.2.1 hr.2.2.2.1 (by simp) (fun u2 hb2 => takeInode_any a len cap zs u2 (hru.below hb2 hb2.size)) fun u2 hb2 => ?_
  refine (inode_ok (inoOf zs) u2 h.1 h.2.1).mono ?_
  rintro e w' ⟨a', c', rfl, hh, hb⟩
  have h1 := hh.out.1
  rw [h.2.2] at h1
  exact ⟨_, _, _, rfl, h1, hb⟩

/-- **codec.Uninode**, of other bytes. -/
theorem uninode_no (a : Option Addr) (len cap : Nat) (zs : List Int) (w : World) (hr : Row w.heap.size w a len cap zs) (h : ¬ inoIs zs) :
    Calls Tryd.prog 28 #[.slice a len cap] w fun e w' => e = .returned (.tuple #[Iv zeroX, .int .i64 4]) ∧ Below w.heap.size w w' := by
  refine uninode_w zeroX 4 a len cap w fun u hb => ?_
  have hru := hr.below hb hb.size
  have HT : Hid (∀ u2, Below u.heap.size u u2 → Calls Tryd.prog 65 #[.slice a len cap] u2 fun e w' => e = .returned (Iv (inoOf zs)) ∧ Below u2.heap.size u2 w') := fun u2 hb2 => takeInode_any a len cap zs u2 (hru.below hb2 hb2.size)
  by_cases hB : inoBad (inoOf zs) = true
  · exact readI_err (inoOf zs) a len cap 4 u rfl HT fun u2 hb2 => inode_bad (inoOf zs) u2 hB
  · have hB : inoBad (inoOf zs) = false := by simpa using hB
    by_cases hF : inoF (inoOf zs) = true
    · have he : layB 32 (inoL (inoOf zs)) ≠ zs := fun e => h ⟨hB, hF, e⟩
      refine readI_other (inoOf zs) a len cap u (layB 32 (inoL (inoOf zs))) zs hru.has hr.2.2.2.1 (ino32 _) (decide_eq_false he) HT fun u2 hb2 => ?_
      refine (inode_ok (inoOf zs) u2 hB hF).mono ?_
      rintro e w' ⟨a', c', rfl, hh, hb⟩
      exact ⟨_, _, _, rfl, hh.out.1, hb⟩
    · exact readI_err (inoOf zs) a len cap 3 u rfl HT fun u2 hb2 => inode_value (inoOf zs) u2 hB (by simpa using hF)

/-- What is found in bytes as a name in a directory. -/
def dirI (zs : List Int) : Int := getVal zs 0 2
def dirS (zs : List Int) : ByteArray := textVal zs 2 13

def dirIs (zs : List Int) : Prop := dirE (dirI zs) (dirS zs) = 0 ∧ layB 16 (dirL (dirI zs) (dirS zs)) = zs

theorem size_strOf (zs : List Int) : (strOfNums zs).size = zs.length := by simp [strOfNums, ByteArray.size]

theorem textVal_size (zs : List Int) (at' n : Int) : (textVal zs at' n).size ≤ n.toNat := by
  unfold textVal
  split
  · rw [size_strOf, List.length_take]
    have : (partOf zs at' n).length ≤ n.toNat := by unfold partOf; rw [List.length_take]; omega
    omega
  · rw [size_strOf]; simp

theorem dir16 (i : Int) (s : ByteArray) : ∀ z ∈ layB 16 (dirL i s), 0 ≤ z ∧ z ≤ 255 := layB_byte _ _ (dirL_byts i s)

/-- **codec.Undirent**, of the bytes of a name. -/
theorem undirent_yes (a : Option Addr) (len cap : Nat) (zs : List Int) (w : World) (hr : Row w.heap.size w a len cap zs) (h : dirIs zs) :
    Calls Tryd.prog 29 #[.slice a len cap] w fun e w' => e = .returned (.tuple #[Dv (dirI zs) (dirS zs), .int .i64 0]) ∧ Below w.heap.size w w' := by
  refine undirent_w (dirI zs) (dirS zs) 0 a len cap w fun u hb => ?_
  have hru := hr.below hb hb.size
  refine readD_same (dirI zs) (dirS zs) a len cap u zs zs hru.has hr.2.2.2.1 hr.2.2.2.1 (by simp) (fun u2 hb2 => takeDirent_any a len cap zs u2 (hru.below hb2 hb2.size)) fun u2 hb2 => ?_
  refine (dirent_ok (dirI zs) (dirS zs) u2 h.1).mono ?_
  rintro e w' ⟨a', c', rfl, hh, hb⟩
  have h1 := hh.out.1
  rw [h.2] at h1
  exact ⟨_, _, _, rfl, h1, hb⟩

/-- **codec.Undirent**, of other bytes. -/
theorem undirent_no (a : Option Addr) (len cap : Nat) (zs : List Int) (w : World) (hr : Row w.heap.size w a len cap zs) (h : ¬ dirIs zs) :
    Calls Tryd.prog 29 #[.slice a len cap] w fun e w' => e = .returned (.tuple #[.agg #[.int .i64 0, .string ⟨#[]⟩], .int .i64 4]) ∧ Below w.heap.size w w' := by
  refine undirent_w 0 ⟨#[]⟩ 4 a len cap w fun u hb => ?_
  have hru := hr.below hb hb.size
  have HT : Hid (∀ u2, Below u.heap.size u u2 → Calls Tryd.prog 67 #[.slice a len cap] u2 fun e w' => e = .returned (Dv (dirI zs) (dirS zs)) ∧ Below u2.heap.size u2 w') := fun u2 hb2 => takeDirent_any a len cap zs u2 (hru.below hb2 hb2.size)
  by_cases hE : dirE (dirI zs) (dirS zs) = 0
  · have he : layB 16 (dirL (dirI zs) (dirS zs)) ≠ zs := fun e => h ⟨hE, e⟩
    refine readD_other (dirI zs) (dirS zs) a len cap u (layB 16 (dirL (dirI zs) (dirS zs))) zs hru.has hr.2.2.2.1 (dir16 _ _) (decide_eq_false he) HT fun u2 hb2 => ?_
    refine (dirent_ok (dirI zs) (dirS zs) u2 hE).mono ?_
    rintro e w' ⟨a', c', rfl, hh, hb⟩
    exact ⟨_, _, _, rfl, hh.out.1, hb⟩
  · have hs : (dirS zs).size ≤ 9223372036854775807 := by
      have := textVal_size zs 2 13
      unfold dirS
      omega
    exact readD_err (dirI zs) (dirS zs) a len cap (dirE (dirI zs) (dirS zs)) u (by simpa using hE) HT fun u2 hb2 => dirent_err (dirI zs) (dirS zs) u2 hs hE

end Go.Proofs.YtmdkcoenjadieaaDoor

