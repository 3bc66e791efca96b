/- Contracts of codec.takeHeader and codec.takeSuper. -/
import Derived.Test.YtmdkcoenjadieaaDoorCCell
import Derived.Test.YtmdkcoenjadieaaDoorCRef
import Derived.Test.YtmdkcoenjadieaaDoorCHdr2
import Derived.Test.YtmdkcoenjadieaaDoorPCheck
namespace Go.Proofs.YtmdkcoenjadieaaDoor
open Go.RowKit Go.Shelf
set_option linter.unusedVariables false
set_option maxRecDepth 100000

/-- What is found in bytes as a header. -/
def hdrOf (zs : List Int) : Nat → Int
  | 0 => getVal zs 4 4
  | 1 => getVal zs 8 2
  | _ => getVal zs 10 2

set_option maxHeartbeats 4000000 in
theorem takeHeader_any (a : Option Addr) (len cap : Nat) (zs : List Int) (w : World) (hr : Row w.heap.size w a len cap zs) :
    Calls Tryd.prog 52 #[.slice a len cap] w fun e w' => e = .returned (Hv (hdrOf zs)) ∧ Below w.heap.size w w' := by
  have KG : Hid (∀ (at' n : Int) (u : World), at' ≤ 1000 → Below w.heap.size w u → Calls Tryd.prog 74 #[.slice a len cap, .int .i64 at', .int .i64 n] u fun e w' => e = .returned (.int .i64 (getVal zs at' n)) ∧ Below u.heap.size u w') :=
    fun at' n u h1 hb => get_drop a len cap zs at' n u (hr.below hb hb.size) (by omega)
  have HZ := hide (Bl.new w #[.int .i64 0, .int .i64 0, .int .i64 0] 25)
  have HB := hide ((Below.refl _ w).alloc (Nat.le_refl _) (.cells #[.int .i64 0, .int .i64 0, .int .i64 0] 25))
  clear hr
  change Calls Tryd.prog 52 #[.slice a len cap] w fun e w' => e = .returned (.agg #[.int .i64 (getVal zs 4 4), .int .i64 (getVal zs 8 2), .int .i64 (getVal zs 10 2)]) ∧ Below w.heap.size w w'
  go_enter Tryd.func52, Tryd.ntmps52
  go_wp2_with fail
  go_at_call 74
  refine (unhide KG _ _ _ (by omega) HB.out).mono ?_
  rintro e w1 ⟨rfl, hb⟩
  replace HB := hide (bchain HB.out hb (Nat.le_refl _))
  replace HZ := hide (HZ.out.call hb)
  clear hb
  go_wp2_with fail
  go_at_call 74
  refine (unhide KG _ _ _ (by omega) HB.out).mono ?_
  rintro e w2 ⟨rfl, hb⟩
  replace HB := hide (bchain HB.out hb (Nat.le_refl _))
  replace HZ := hide (HZ.out.call hb)
  clear hb
  go_wp2_with fail
  go_at_call 74
  refine (unhide KG _ _ _ (by omega) HB.out).mono ?_
  rintro e w3 ⟨rfl, hb⟩
  replace HB := hide (bchain HB.out hb (Nat.le_refl _))
  replace HZ := hide (HZ.out.call hb)
  clear hb
  have z0 := HZ.out.cell 0 _ rfl
  have z1 := HZ.out.cell 1 _ rfl
  have z2 := HZ.out.cell 2 _ rfl
  have hz := HZ.out.free
  clear KG
  go_wp2_with fail
  have hW : Below w.heap.size w (setAll w3 w.heap.size 0 [.int .i64 (getVal zs 4 4), .int .i64 (getVal zs 8 2), .int .i64 (getVal zs 10 2)]) := below_setAll (Nat.le_refl _) _ _ _ _ HB.out
  have hA : Bl (setAll w3 w.heap.size 0 [.int .i64 (getVal zs 4 4), .int .i64 (getVal zs 8 2), .int .i64 (getVal zs 10 2)]) w.heap.size #[.int .i64 (getVal zs 4 4), .int .i64 (getVal zs 8 2), .int .i64 (getVal zs 10 2)] 25 := setAll_whole [.int .i64 (getVal zs 4 4), .int .i64 (getVal zs 8 2), .int .i64 (getVal zs 10 2)] _ _ HZ.out rfl
  change bodyPost _ _ _ _ _ (setAll w3 w.heap.size 0 [.int .i64 (getVal zs 4 4), .int .i64 (getVal zs 8 2), .int .i64 (getVal zs 10 2)])
  generalize setAll w3 w.heap.size 0 [.int .i64 (getVal zs 4 4), .int .i64 (getVal zs 8 2), .int .i64 (getVal zs 10 2)] = wf at *
  refine bodyPost_ret (v := .agg #[.int .i64 (getVal zs 4 4), .int .i64 (getVal zs 8 2), .int .i64 (getVal zs 10 2)]) ?_ rfl ⟨rfl, hW⟩
  simp [results, Tryd.results52, go_sem, hA.cell 0 _ rfl, hA.cell 1 _ rfl, hA.cell 2 _ rfl]

/-- What is found in bytes as a plan. -/
def supOf (zs : List Int) : Nat → Int := makeP (getVal zs 4 2) (getVal zs 6 2) (getVal zs 8 2) (getVal zs 10 2)

set_option maxHeartbeats 8000000 in
theorem takeSuper_any (a : Option Addr) (len cap : Nat) (zs : List Int) (w : World) (hr : Row w.heap.size w a len cap zs) :
    Calls Tryd.prog 48 #[.slice a len cap] w fun e w' => e = .returned (Pv (supOf zs)) ∧ Below w.heap.size w w' := by
  have KG : Hid (∀ (at' n : Int) (u : World), at' ≤ 1000 → Below w.heap.size w u → Calls Tryd.prog 74 #[.slice a len cap, .int .i64 at', .int .i64 n] u fun e w' => e = .returned (.int .i64 (getVal zs at' n)) ∧ Below u.heap.size u w') :=
    fun at' n u h1 hb => get_drop a len cap zs at' n u (hr.below hb hb.size) (by omega)
  have KM : Hid (∀ u, Calls Tryd.prog 70 #[.int .i64 (getVal zs 4 2), .int .i64 (getVal zs 6 2), .int .i64 (getVal zs 8 2), .int .i64 (getVal zs 10 2)] u fun r w' => ∃ q, r = .returned (.tuple #[Pv (supOf zs), .int .i64 q]) ∧ Below u.heap.size u w') :=
    fun u => (make_any _ _ _ _ u).mono fun r w' ⟨h1, h2⟩ => ⟨_, h1, h2⟩
  have HZ := hide (Bl.new w #[.int .i64 0, .int .i64 0, .int .i64 0, .int .i64 0, .int .i64 0, .int .i64 0, .int .i64 0, .int .i64 0, .int .i64 0, .int .i64 0, .int .i64 0, .int .i64 0] 23)
  have HB := hide ((Below.refl _ w).alloc (Nat.le_refl _) (.cells #[.int .i64 0, .int .i64 0, .int .i64 0, .int .i64 0, .int .i64 0, .int .i64 0, .int .i64 0, .int .i64 0, .int .i64 0, .int .i64 0, .int .i64 0, .int .i64 0] 23))
  clear hr
  generalize supOf zs = P at *
  go_enter Tryd.func48, Tryd.ntmps48
  go_wp2_with fail
  go_at_call 74
  refine (unhide KG _ _ _ (by omega) HB.out).mono ?_
  rintro e w1 ⟨rfl, hb⟩
  replace HB := hide (bchain HB.out hb (Nat.le_refl _))
  replace HZ := hide (HZ.out.call hb)
  clear hb
  go_wp2_with fail
  go_at_call 74
  refine (unhide KG _ _ _ (by omega) HB.out).mono ?_
  rintro e w2 ⟨rfl, hb⟩
  replace HB := hide (bchain HB.out hb (Nat.le_refl _))
  replace HZ := hide (HZ.out.call hb)
  clear hb
  go_wp2_with fail
  go_at_call 74
  refine (unhide KG _ _ _ (by omega) HB.out).mono ?_
  rintro e w3 ⟨rfl, hb⟩
  replace HB := hide (bchain HB.out hb (Nat.le_refl _))
  replace HZ := hide (HZ.out.call hb)
  clear hb
  go_wp2_with fail
  go_at_call 74
  refine (unhide KG _ _ _ (by omega) HB.out).mono ?_
  rintro e w4 ⟨rfl, hb⟩
  replace HB := hide (bchain HB.out hb (Nat.le_refl _))
  replace HZ := hide (HZ.out.call hb)
  clear hb
  clear KG
  go_wp2_with fail
  go_at_call 70
  refine (unhide KM _).mono ?_
  rintro e w5 ⟨q, rfl, hb⟩
  replace HB := hide ((bchain HB.out hb (Nat.le_refl _)).alloc (bchain HB.out hb (Nat.le_refl _)).size (.cells (Pc P) 23))
  replace HZ := hide ((HZ.out.call hb).alloc (.cells (Pc P) 23))
  clear hb KM
  have z0 := HZ.out.cell 0 _ rfl
  have z1 := HZ.out.cell 1 _ rfl
  have z2 := HZ.out.cell 2 _ rfl
  have z3 := HZ.out.cell 3 _ rfl
  have z4 := HZ.out.cell 4 _ rfl
  have z5 := HZ.out.cell 5 _ rfl
  have z6 := HZ.out.cell 6 _ rfl
  have z7 := HZ.out.cell 7 _ rfl
  have z8 := HZ.out.cell 8 _ rfl
  have z9 := HZ.out.cell 9 _ rfl
  have z10 := HZ.out.cell 10 _ rfl
  have z11 := HZ.out.cell 11 _ rfl
  have hz := HZ.out.free
  go_wp2_with fail
  have hW : Below w.heap.size w (setAll (w5.alloc (.cells (Pc P) 23)) w.heap.size 0 [.int .i64 (P 0), .int .i64 (P 1), .int .i64 (P 2), .int .i64 (P 3), .int .i64 (P 4), .int .i64 (P 5), .int .i64 (P 6), .int .i64 (P 7), .int .i64 (P 8), .int .i64 (P 9), .int .i64 (P 10), .int .i64 (P 11)]) := below_setAll (Nat.le_refl _) _ _ _ _ HB.out
  have hA : Bl (setAll (w5.alloc (.cells (Pc P) 23)) w.heap.size 0 [.int .i64 (P 0), .int .i64 (P 1), .int .i64 (P 2), .int .i64 (P 3), .int .i64 (P 4), .int .i64 (P 5), .int .i64 (P 6), .int .i64 (P 7), .int .i64 (P 8), .int .i64 (P 9), .int .i64 (P 10), .int .i64 (P 11)]) w.heap.size #[.int .i64 (P 0), .int .i64 (P 1), .int .i64 (P 2), .int .i64 (P 3), .int .i64 (P 4), .int .i64 (P 5), .int .i64 (P 6), .int .i64 (P 7), .int .i64 (P 8), .int .i64 (P 9), .int .i64 (P 10), .int .i64 (P 11)] 23 := setAll_whole [.int .i64 (P 0), .int .i64 (P 1), .int .i64 (P 2), .int .i64 (P 3), .int .i64 (P 4), .int .i64 (P 5), .int .i64 (P 6), .int .i64 (P 7), .int .i64 (P 8), .int .i64 (P 9), .int .i64 (P 10), .int .i64 (P 11)] _ _ HZ.out rfl
  change bodyPost _ _ _ _ _ (setAll (w5.alloc (.cells (Pc P) 23)) w.heap.size 0 [.int .i64 (P 0), .int .i64 (P 1), .int .i64 (P 2), .int .i64 (P 3), .int .i64 (P 4), .int .i64 (P 5), .int .i64 (P 6), .int .i64 (P 7), .int .i64 (P 8), .int .i64 (P 9), .int .i64 (P 10), .int .i64 (P 11)])
  generalize setAll (w5.alloc (.cells (Pc P) 23)) w.heap.size 0 [.int .i64 (P 0), .int .i64 (P 1), .int .i64 (P 2), .int .i64 (P 3), .int .i64 (P 4), .int .i64 (P 5), .int .i64 (P 6), .int .i64 (P 7), .int .i64 (P 8), .int .i64 (P 9), .int .i64 (P 10), .int .i64 (P 11)] = wf at *
  refine bodyPost_ret (v := Pv P) ?_ rfl ⟨rfl, hW⟩
  simp [results, Tryd.results48, go_sem, hA.cell 0 _ rfl, hA.cell 1 _ rfl, hA.cell 2 _ rfl, hA.cell 3 _ rfl, hA.cell 4 _ rfl, hA.cell 5 _ rfl, hA.cell 6 _ rfl, hA.cell 7 _ rfl, hA.cell 8 _ rfl, hA.cell 9 _ rfl, hA.cell 10 _ rfl, hA.cell 11 _ rfl]

end Go.Proofs.YtmdkcoenjadieaaDoor
