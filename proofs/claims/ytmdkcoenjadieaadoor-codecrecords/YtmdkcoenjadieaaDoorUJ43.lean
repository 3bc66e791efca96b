/- Joined: CUnR, CRUnR. -/
import Derived.Test.YtmdkcoenjadieaaDoorUCTakeR
import Derived.Test.YtmdkcoenjadieaaDoorUJ37
import Derived.Test.YtmdkcoenjadieaaDoorUJ27
import Derived.Deep.RegionHeld3
/- Contracts of codec.Unrecord. -/
namespace Go.Proofs.YtmdkcoenjadieaaDoor
open Go.RowKit Go.Shelf
set_option linter.unusedVariables false
set_option maxRecDepth 100000

set_option maxHeartbeats 4000000 in
theorem unrecord_err (a : Option Addr) (len cap : Nat) (at' : Int) (w : World) (q : Int) (hq : (q != 0) = true) (KU : Hid (∀ u, Below w.heap.size w u → Calls Tryd.prog 60 #[.slice a len cap, .int .i64 at'] u fun e w' => e = .returned (.tuple #[.slice none 0 0, .int .i64 0, .int .i64 q]) ∧ Below u.heap.size u w')) :
    Calls Tryd.prog 25 #[.slice a len cap, .int .i64 at'] w fun e w' => e = .returned (.tuple #[.agg Rz, .int .i64 0, .int .i64 q]) ∧ Below w.heap.size w w' := by
  have HZ := hide (Bl.new w Rz 48)
  have HB := hide ((Below.refl _ w).alloc (Nat.le_refl _) (.cells Rz 48))
  go_enter Tryd.func25, Tryd.ntmps25
  go_wp2_with fail
  go_at_call 60
  refine (unhide KU _ HB.out).mono ?_
  rintro e w1 ⟨rfl, hb⟩
  replace HB := hide (bchain HB.out hb (Nat.le_refl _))
  replace HZ := hide (HZ.out.call hb)
  clear hb KU
  have z0 := HZ.out.cell 0 _ rfl
  have z1 := HZ.out.cell 1 _ rfl
  have z2 := HZ.out.cell 2 _ rfl
  have z3 := HZ.out.cell 3 _ rfl
  have z4 := HZ.out.cell 4 _ rfl
  have z5 := HZ.out.cell 5 _ rfl
  have z6 := HZ.out.cell 6 _ rfl
  have z7 := HZ.out.cell 7 _ rfl
  have z8 := HZ.out.cell 8 _ rfl
  have hz := HZ.out.free
  go_wp2_with fail
  have hW : Below w.heap.size w (setAll w1 w.heap.size 0 [.int .i64 0, .int .i64 0, .int .i64 0, .int .i64 0, .int .i64 0, .int .i64 0, .int .i64 0, .int .i64 0, .string ⟨#[]⟩]) := below_setAll (Nat.le_refl _) _ _ _ _ HB.out
  have hA : Bl (setAll w1 w.heap.size 0 [.int .i64 0, .int .i64 0, .int .i64 0, .int .i64 0, .int .i64 0, .int .i64 0, .int .i64 0, .int .i64 0, .string ⟨#[]⟩]) w.heap.size #[.int .i64 0, .int .i64 0, .int .i64 0, .int .i64 0, .int .i64 0, .int .i64 0, .int .i64 0, .int .i64 0, .string ⟨#[]⟩] 48 := setAll_whole [.int .i64 0, .int .i64 0, .int .i64 0, .int .i64 0, .int .i64 0, .int .i64 0, .int .i64 0, .int .i64 0, .string ⟨#[]⟩] _ _ HZ.out rfl
  change bodyPost _ _ _ _ _ (setAll w1 w.heap.size 0 [.int .i64 0, .int .i64 0, .int .i64 0, .int .i64 0, .int .i64 0, .int .i64 0, .int .i64 0, .int .i64 0, .string ⟨#[]⟩])
  generalize setAll w1 w.heap.size 0 [.int .i64 0, .int .i64 0, .int .i64 0, .int .i64 0, .int .i64 0, .int .i64 0, .int .i64 0, .int .i64 0, .string ⟨#[]⟩] = wf at *
  refine bodyPost_ret (v := .tuple #[.agg Rz, .int .i64 0, .int .i64 q]) ?_ rfl ⟨rfl, hW⟩
  simp [results, Tryd.results25, go_sem, hA.cell 0 _ rfl, hA.cell 1 _ rfl, hA.cell 2 _ rfl, hA.cell 3 _ rfl, hA.cell 4 _ rfl, hA.cell 5 _ rfl, hA.cell 6 _ rfl, hA.cell 7 _ rfl, hA.cell 8 _ rfl]

set_option maxHeartbeats 4000000 in
theorem unrecord_short (a : Option Addr) (len cap : Nat) (at' : Int) (w : World) (n : Nat) (nx : Int) (P : List Int) (hn : n < 24) (KU : Hid (∀ u, Below w.heap.size w u → Calls Tryd.prog 60 #[.slice a len cap, .int .i64 at'] u fun e w' => ∃ a' c', e = .returned (.tuple #[.slice a' n c', .int .i64 nx, .int .i64 0]) ∧ Hid (Row w'.heap.size w' a' n c' P) ∧ Below u.heap.size u w')) :
    Calls Tryd.prog 25 #[.slice a len cap, .int .i64 at'] w fun e w' => e = .returned (.tuple #[.agg Rz, .int .i64 0, .int .i64 4]) ∧ Below w.heap.size w w' := by
  have HZ := hide (Bl.new w Rz 48)
  have HB := hide ((Below.refl _ w).alloc (Nat.le_refl _) (.cells Rz 48))
  go_enter Tryd.func25, Tryd.ntmps25
  go_wp2_with fail
  go_at_call 60
  refine (unhide KU _ HB.out).mono ?_
  rintro e w1 ⟨a', c', rfl, hR, hb⟩
  replace HB := hide (bchain HB.out hb (Nat.le_refl _))
  replace HZ := hide (HZ.out.call hb)
  clear hb KU
  have hd : decide ((n : Int) < 24) = true := by simp; omega
  clear hR
  have z0 := HZ.out.cell 0 _ rfl
  have z1 := HZ.out.cell 1 _ rfl
  have z2 := HZ.out.cell 2 _ rfl
  have z3 := HZ.out.cell 3 _ rfl
  have z4 := HZ.out.cell 4 _ rfl
  have z5 := HZ.out.cell 5 _ rfl
  have z6 := HZ.out.cell 6 _ rfl
  have z7 := HZ.out.cell 7 _ rfl
  have z8 := HZ.out.cell 8 _ rfl
  have hz := HZ.out.free
  go_wp2_with fail
  have hW : Below w.heap.size w (setAll w1 w.heap.size 0 [.int .i64 0, .int .i64 0, .int .i64 0, .int .i64 0, .int .i64 0, .int .i64 0, .int .i64 0, .int .i64 0, .string ⟨#[]⟩]) := below_setAll (Nat.le_refl _) _ _ _ _ HB.out
  have hA : Bl (setAll w1 w.heap.size 0 [.int .i64 0, .int .i64 0, .int .i64 0, .int .i64 0, .int .i64 0, .int .i64 0, .int .i64 0, .int .i64 0, .string ⟨#[]⟩]) w.heap.size #[.int .i64 0, .int .i64 0, .int .i64 0, .int .i64 0, .int .i64 0, .int .i64 0, .int .i64 0, .int .i64 0, .string ⟨#[]⟩] 48 := setAll_whole [.int .i64 0, .int .i64 0, .int .i64 0, .int .i64 0, .int .i64 0, .int .i64 0, .int .i64 0, .int .i64 0, .string ⟨#[]⟩] _ _ HZ.out rfl
  change bodyPost _ _ _ _ _ (setAll w1 w.heap.size 0 [.int .i64 0, .int .i64 0, .int .i64 0, .int .i64 0, .int .i64 0, .int .i64 0, .int .i64 0, .int .i64 0, .string ⟨#[]⟩])
  generalize setAll w1 w.heap.size 0 [.int .i64 0, .int .i64 0, .int .i64 0, .int .i64 0, .int .i64 0, .int .i64 0, .int .i64 0, .int .i64 0, .string ⟨#[]⟩] = wf at *
  refine bodyPost_ret (v := .tuple #[.agg Rz, .int .i64 0, .int .i64 4]) ?_ rfl ⟨rfl, hW⟩
  simp [results, Tryd.results25, go_sem, hA.cell 0 _ rfl, hA.cell 1 _ rfl, hA.cell 2 _ rfl, hA.cell 3 _ rfl, hA.cell 4 _ rfl, hA.cell 5 _ rfl, hA.cell 6 _ rfl, hA.cell 7 _ rfl, hA.cell 8 _ rfl]

set_option maxHeartbeats 4000000 in
theorem unrecord_good (a : Option Addr) (len cap : Nat) (at' : Int) (w : World) (n : Nat) (nx : Int) (P : List Int) (hn : 24 ≤ n) (hn2 : n ≤ 65535) (KU : Hid (∀ u, Below w.heap.size w u → Calls Tryd.prog 60 #[.slice a len cap, .int .i64 at'] u fun e w' => ∃ a' c', e = .returned (.tuple #[.slice a' n c', .int .i64 nx, .int .i64 0]) ∧ Hid (Row w'.heap.size w' a' n c' P) ∧ Below u.heap.size u w')) :
    Calls Tryd.prog 25 #[.slice a len cap, .int .i64 at'] w fun e w' => e = .returned (.tuple #[Rv (recOf P) (recS P), .int .i64 nx, .int .i64 0]) ∧ Below w.heap.size w w' := by
  have HZ := hide (Bl.new w Rz 48)
  have HB := hide ((Below.refl _ w).alloc (Nat.le_refl _) (.cells Rz 48))
  go_enter Tryd.func25, Tryd.ntmps25
  go_wp2_with fail
  go_at_call 60
  refine (unhide KU _ HB.out).mono ?_
  rintro e w1 ⟨a', c', rfl, hR, hb⟩
  replace HB := hide (bchain HB.out hb (Nat.le_refl _))
  replace HZ := hide (HZ.out.call hb)
  clear hb KU
  have hd : decide ((n : Int) < 24) = false := by simp; omega
  have KT := hide (takeRecord_any a' n c' P w1 hR.out hn)
  clear hR
  generalize hZ : recOf P = Z at *
  generalize hS : recS P = S at *
  have HX := hide hZ
  have HY := hide hS
  clear hZ hS
  go_wp2_with fail
  go_at_call 61
  refine (unhide KT).mono ?_
  rintro e w2 ⟨rfl, hb⟩
  replace HB := hide (bchain HB.out hb (Nat.le_refl _))
  replace HZ := hide (HZ.out.call hb)
  clear hb KT
  have z0 := HZ.out.cell 0 _ rfl
  have z1 := HZ.out.cell 1 _ rfl
  have z2 := HZ.out.cell 2 _ rfl
  have z3 := HZ.out.cell 3 _ rfl
  have z4 := HZ.out.cell 4 _ rfl
  have z5 := HZ.out.cell 5 _ rfl
  have z6 := HZ.out.cell 6 _ rfl
  have z7 := HZ.out.cell 7 _ rfl
  have z8 := HZ.out.cell 8 _ rfl
  have hz := HZ.out.free
  go_wp2_with fail
  have hW : Below w.heap.size w (setAll w2 w.heap.size 0 [.int .i64 (Z 0), .int .i64 (Z 1), .int .i64 (Z 2), .int .i64 (Z 3), .int .i64 (Z 4), .int .i64 (Z 5), .int .i64 (Z 6), .int .i64 (Z 7), .string S]) := below_setAll (Nat.le_refl _) _ _ _ _ HB.out
  have hA : Bl (setAll w2 w.heap.size 0 [.int .i64 (Z 0), .int .i64 (Z 1), .int .i64 (Z 2), .int .i64 (Z 3), .int .i64 (Z 4), .int .i64 (Z 5), .int .i64 (Z 6), .int .i64 (Z 7), .string S]) w.heap.size #[.int .i64 (Z 0), .int .i64 (Z 1), .int .i64 (Z 2), .int .i64 (Z 3), .int .i64 (Z 4), .int .i64 (Z 5), .int .i64 (Z 6), .int .i64 (Z 7), .string S] 48 := setAll_whole [.int .i64 (Z 0), .int .i64 (Z 1), .int .i64 (Z 2), .int .i64 (Z 3), .int .i64 (Z 4), .int .i64 (Z 5), .int .i64 (Z 6), .int .i64 (Z 7), .string S] _ _ HZ.out rfl
  change bodyPost _ _ _ _ _ (setAll w2 w.heap.size 0 [.int .i64 (Z 0), .int .i64 (Z 1), .int .i64 (Z 2), .int .i64 (Z 3), .int .i64 (Z 4), .int .i64 (Z 5), .int .i64 (Z 6), .int .i64 (Z 7), .string S])
  generalize setAll w2 w.heap.size 0 [.int .i64 (Z 0), .int .i64 (Z 1), .int .i64 (Z 2), .int .i64 (Z 3), .int .i64 (Z 4), .int .i64 (Z 5), .int .i64 (Z 6), .int .i64 (Z 7), .string S] = wf at *
  refine bodyPost_ret (v := .tuple #[Rv Z S, .int .i64 nx, .int .i64 0]) ?_ rfl ⟨by first | rfl | rw [HX.out, HY.out], hW⟩
  simp [results, Tryd.results25, go_sem, hA.cell 0 _ rfl, hA.cell 1 _ rfl, hA.cell 2 _ rfl, hA.cell 3 _ rfl, hA.cell 4 _ rfl, hA.cell 5 _ rfl, hA.cell 6 _ rfl, hA.cell 7 _ rfl, hA.cell 8 _ rfl]

/-- Own memory, read as a row. -/
theorem Own.rowH {B : Nat} {w : World} {a : Option Addr} {n c : Nat} {xs : List Int} (h : Own B w a n c xs) (hb : ∀ z ∈ xs, 0 ≤ z ∧ z ≤ 255) (hn : n ≤ 140737488351232) : Row w.heap.size w a n c xs :=
  row_of_has h.has hb h.2.1 (by have := h.2.2.1; unfold maxLen at this; omega) hn

/-- A reader's answer of three. -/
def RA3 (f : FuncId) (args : Array Value) (v : Value) (n q : Int) (u : World) : Prop :=
  Calls Tryd.prog f args u fun e w' => e = .returned (.tuple #[v, .int .i64 n, .int .i64 q]) ∧ Below u.heap.size u w'

/-- What a frame in bytes holds. -/
def payB (zs : List Int) (at' : Int) : List Int := (((zs.drop at'.toNat).drop 2).take (sizeB (zs.drop at'.toNat)))

theorem unrecord_any (a : Option Addr) (len cap : Nat) (zs : List Int) (at' : Int) (u : World) (hT : Tab u) (hr : Row u.heap.size u a len cap zs) :
    (unE zs at' ≠ 0 → RA3 25 #[.slice a len cap, .int .i64 at'] (.agg Rz) 0 (unE zs at') u) ∧
    (unE zs at' = 0 → sizeB (zs.drop at'.toNat) < 24 → RA3 25 #[.slice a len cap, .int .i64 at'] (.agg Rz) 0 4 u) ∧
    (unE zs at' = 0 → 24 ≤ sizeB (zs.drop at'.toNat) → RA3 25 #[.slice a len cap, .int .i64 at'] (Rv (recOf (payB zs at')) (recS (payB zs at'))) (at' + (sizeB (zs.drop at'.toNat) : Int) + 6) 0 u) := by
  have KU : ∀ u2, Below u.heap.size u u2 → Calls Tryd.prog 60 #[.slice a len cap, .int .i64 at'] u2 fun e w' => UnAns u2 w' e at' (zs.drop at'.toNat) (unE zs at') ∧ Below u2.heap.size u2 w' := fun u2 hb => unframe_any a len cap zs at' u2 (hr.below hb hb.size) (hT.below hb (tab_size hT))
  have hbz : Byts (zs.drop at'.toNat) := fun z hz => hr.2.2.2.1 z (List.mem_of_mem_drop hz)
  have good : unE zs at' = 0 → sizeB (zs.drop at'.toNat) ≤ 65535 ∧ Hid (∀ u2, Below u.heap.size u u2 → Calls Tryd.prog 60 #[.slice a len cap, .int .i64 at'] u2 fun e w' => ∃ a' c', e = .returned (.tuple #[.slice a' (sizeB (zs.drop at'.toNat)) c', .int .i64 (at' + (sizeB (zs.drop at'.toNat) : Int) + 6), .int .i64 0]) ∧ Hid (Row w'.heap.size w' a' (sizeB (zs.drop at'.toNat)) c' (payB zs at')) ∧ Below u2.heap.size u2 w') := by
    intro h0
    have hsz : sizeB (zs.drop at'.toNat) ≤ 65535 := by
      have h0' := h0
      unfold unE at h0'
      split at h0'
      · omega
      · split at h0'
        · omega
        · rcases restE_cases (zs.drop at'.toNat) with h | h | h | h
          · omega
          · omega
          · omega
          · exact (sizeB_num hbz (by omega)).2
    refine ⟨hsz, fun u2 hb => (KU u2 hb).mono ?_⟩
    rintro e w' ⟨hA, hb'⟩
    rcases hA with ⟨h1, _⟩ | ⟨_, a', c', e1, hO⟩
    · exact absurd h0 h1
    · exact ⟨a', c', e1, hO.rowH (fun z hz => hbz z (List.mem_of_mem_drop (List.mem_of_mem_take hz))) (by omega), hb'⟩
  refine ⟨fun h => ?_, fun h h2 => ?_, fun h h2 => ?_⟩
  · refine unrecord_err a len cap at' u (unE zs at') (by simpa using h) fun u2 hb => (KU u2 hb).mono ?_
    rintro e w' ⟨hA, hb'⟩
    rcases hA with ⟨_, e1⟩ | ⟨h1, _⟩
    · exact ⟨e1, hb'⟩
    · exact absurd h1 h
  · exact unrecord_short a len cap at' u _ _ _ h2 (good h).2
  · exact unrecord_good a len cap at' u _ _ _ h2 (good h).1 (good h).2

end Go.Proofs.YtmdkcoenjadieaaDoor

/- Contracts of skerryref06.Unrecord. -/
namespace Go.Proofs.YtmdkcoenjadieaaDoor
open Go.RowKit Go.Shelf
set_option linter.unusedVariables false
set_option maxRecDepth 100000

set_option maxHeartbeats 4000000 in
theorem refUnrecord_err (a : Option Addr) (len cap : Nat) (at' : Int) (w : World) (q : Int) (hq : (q != 0) = true) (KU : Hid (∀ u, Below w.heap.size w u → Calls Tryd.prog 62 #[.slice a len cap, .int .i64 at'] u fun e w' => e = .returned (.tuple #[.slice none 0 0, .int .i64 0, .int .i64 q]) ∧ Below u.heap.size u w')) :
    Calls Tryd.prog 26 #[.slice a len cap, .int .i64 at'] w fun e w' => e = .returned (.tuple #[.agg Rz, .int .i64 0, .int .i64 q]) ∧ Below w.heap.size w w' := by
  have HZ := hide (Bl.new w Rz 48)
  have HB := hide ((Below.refl _ w).alloc (Nat.le_refl _) (.cells Rz 48))
  go_enter Tryd.func26, Tryd.ntmps26
  go_wp2_with fail
  go_at_call 62
  refine (unhide KU _ HB.out).mono ?_
  rintro e w1 ⟨rfl, hb⟩
  replace HB := hide (bchain HB.out hb (Nat.le_refl _))
  replace HZ := hide (HZ.out.call hb)
  clear hb KU
  have z0 := HZ.out.cell 0 _ rfl
  have z1 := HZ.out.cell 1 _ rfl
  have z2 := HZ.out.cell 2 _ rfl
  have z3 := HZ.out.cell 3 _ rfl
  have z4 := HZ.out.cell 4 _ rfl
  have z5 := HZ.out.cell 5 _ rfl
  have z6 := HZ.out.cell 6 _ rfl
  have z7 := HZ.out.cell 7 _ rfl
  have z8 := HZ.out.cell 8 _ rfl
  have hz := HZ.out.free
  go_wp2_with fail
  have hW : Below w.heap.size w (setAll w1 w.heap.size 0 [.int .i64 0, .int .i64 0, .int .i64 0, .int .i64 0, .int .i64 0, .int .i64 0, .int .i64 0, .int .i64 0, .string ⟨#[]⟩]) := below_setAll (Nat.le_refl _) _ _ _ _ HB.out
  have hA : Bl (setAll w1 w.heap.size 0 [.int .i64 0, .int .i64 0, .int .i64 0, .int .i64 0, .int .i64 0, .int .i64 0, .int .i64 0, .int .i64 0, .string ⟨#[]⟩]) w.heap.size #[.int .i64 0, .int .i64 0, .int .i64 0, .int .i64 0, .int .i64 0, .int .i64 0, .int .i64 0, .int .i64 0, .string ⟨#[]⟩] 48 := setAll_whole [.int .i64 0, .int .i64 0, .int .i64 0, .int .i64 0, .int .i64 0, .int .i64 0, .int .i64 0, .int .i64 0, .string ⟨#[]⟩] _ _ HZ.out rfl
  change bodyPost _ _ _ _ _ (setAll w1 w.heap.size 0 [.int .i64 0, .int .i64 0, .int .i64 0, .int .i64 0, .int .i64 0, .int .i64 0, .int .i64 0, .int .i64 0, .string ⟨#[]⟩])
  generalize setAll w1 w.heap.size 0 [.int .i64 0, .int .i64 0, .int .i64 0, .int .i64 0, .int .i64 0, .int .i64 0, .int .i64 0, .int .i64 0, .string ⟨#[]⟩] = wf at *
  refine bodyPost_ret (v := .tuple #[.agg Rz, .int .i64 0, .int .i64 q]) ?_ rfl ⟨rfl, hW⟩
  simp [results, Tryd.results26, go_sem, hA.cell 0 _ rfl, hA.cell 1 _ rfl, hA.cell 2 _ rfl, hA.cell 3 _ rfl, hA.cell 4 _ rfl, hA.cell 5 _ rfl, hA.cell 6 _ rfl, hA.cell 7 _ rfl, hA.cell 8 _ rfl]

set_option maxHeartbeats 4000000 in
theorem refUnrecord_short (a : Option Addr) (len cap : Nat) (at' : Int) (w : World) (n : Nat) (nx : Int) (P : List Int) (hn : n < 24) (KU : Hid (∀ u, Below w.heap.size w u → Calls Tryd.prog 62 #[.slice a len cap, .int .i64 at'] u fun e w' => ∃ a' c', e = .returned (.tuple #[.slice a' n c', .int .i64 nx, .int .i64 0]) ∧ Hid (Row w'.heap.size w' a' n c' P) ∧ Below u.heap.size u w')) :
    Calls Tryd.prog 26 #[.slice a len cap, .int .i64 at'] w fun e w' => e = .returned (.tuple #[.agg Rz, .int .i64 0, .int .i64 4]) ∧ Below w.heap.size w w' := by
  have HZ := hide (Bl.new w Rz 48)
  have HB := hide ((Below.refl _ w).alloc (Nat.le_refl _) (.cells Rz 48))
  go_enter Tryd.func26, Tryd.ntmps26
  go_wp2_with fail
  go_at_call 62
  refine (unhide KU _ HB.out).mono ?_
  rintro e w1 ⟨a', c', rfl, hR, hb⟩
  replace HB := hide (bchain HB.out hb (Nat.le_refl _))
  replace HZ := hide (HZ.out.call hb)
  clear hb KU
  have hd : decide ((n : Int) < 24) = true := by simp; omega
  clear hR
  have z0 := HZ.out.cell 0 _ rfl
  have z1 := HZ.out.cell 1 _ rfl
  have z2 := HZ.out.cell 2 _ rfl
  have z3 := HZ.out.cell 3 _ rfl
  have z4 := HZ.out.cell 4 _ rfl
  have z5 := HZ.out.cell 5 _ rfl
  have z6 := HZ.out.cell 6 _ rfl
  have z7 := HZ.out.cell 7 _ rfl
  have z8 := HZ.out.cell 8 _ rfl
  have hz := HZ.out.free
  go_wp2_with fail
  have hW : Below w.heap.size w (setAll w1 w.heap.size 0 [.int .i64 0, .int .i64 0, .int .i64 0, .int .i64 0, .int .i64 0, .int .i64 0, .int .i64 0, .int .i64 0, .string ⟨#[]⟩]) := below_setAll (Nat.le_refl _) _ _ _ _ HB.out
  have hA : Bl (setAll w1 w.heap.size 0 [.int .i64 0, .int .i64 0, .int .i64 0, .int .i64 0, .int .i64 0, .int .i64 0, .int .i64 0, .int .i64 0, .string ⟨#[]⟩]) w.heap.size #[.int .i64 0, .int .i64 0, .int .i64 0, .int .i64 0, .int .i64 0, .int .i64 0, .int .i64 0, .int .i64 0, .string ⟨#[]⟩] 48 := setAll_whole [.int .i64 0, .int .i64 0, .int .i64 0, .int .i64 0, .int .i64 0, .int .i64 0, .int .i64 0, .int .i64 0, .string ⟨#[]⟩] _ _ HZ.out rfl
  change bodyPost _ _ _ _ _ (setAll w1 w.heap.size 0 [.int .i64 0, .int .i64 0, .int .i64 0, .int .i64 0, .int .i64 0, .int .i64 0, .int .i64 0, .int .i64 0, .string ⟨#[]⟩])
  generalize setAll w1 w.heap.size 0 [.int .i64 0, .int .i64 0, .int .i64 0, .int .i64 0, .int .i64 0, .int .i64 0, .int .i64 0, .int .i64 0, .string ⟨#[]⟩] = wf at *
  refine bodyPost_ret (v := .tuple #[.agg Rz, .int .i64 0, .int .i64 4]) ?_ rfl ⟨rfl, hW⟩
  simp [results, Tryd.results26, go_sem, hA.cell 0 _ rfl, hA.cell 1 _ rfl, hA.cell 2 _ rfl, hA.cell 3 _ rfl, hA.cell 4 _ rfl, hA.cell 5 _ rfl, hA.cell 6 _ rfl, hA.cell 7 _ rfl, hA.cell 8 _ rfl]

set_option maxHeartbeats 4000000 in
theorem refUnrecord_good (a : Option Addr) (len cap : Nat) (at' : Int) (w : World) (n : Nat) (nx : Int) (P : List Int) (hn : 24 ≤ n) (hn2 : n ≤ 65535) (KU : Hid (∀ u, Below w.heap.size w u → Calls Tryd.prog 62 #[.slice a len cap, .int .i64 at'] u fun e w' => ∃ a' c', e = .returned (.tuple #[.slice a' n c', .int .i64 nx, .int .i64 0]) ∧ Hid (Row w'.heap.size w' a' n c' P) ∧ Below u.heap.size u w')) :
    Calls Tryd.prog 26 #[.slice a len cap, .int .i64 at'] w fun e w' => e = .returned (.tuple #[Rv (recOf P) (recS P), .int .i64 nx, .int .i64 0]) ∧ Below w.heap.size w w' := by
  unfold recOf
  have HZ := hide (Bl.new w Rz 48)
  have HB := hide ((Below.refl _ w).alloc (Nat.le_refl _) (.cells Rz 48))
  go_enter Tryd.func26, Tryd.ntmps26
  go_wp2_with fail
  go_at_call 62
  refine (unhide KU _ HB.out).mono ?_
  rintro e w1 ⟨a', c', rfl, hR, hb⟩
  replace HB := hide (bchain HB.out hb (Nat.le_refl _))
  replace HZ := hide (HZ.out.call hb)
  clear hb KU
  have hd : decide ((n : Int) < 24) = false := by simp; omega
  have KG : Hid (∀ (at' n0 : Int) (u : World), at' ≤ 1000 → Below w1.heap.size w1 u → Calls Tryd.prog 50 #[.slice a' n c', .int .i64 at', .int .i64 n0] u fun e w' => e = .returned (.int .i64 (getVal P at' n0)) ∧ u = w') :=
    fun at' n0 u h1 hb => num_drop0 a' n c' P at' n0 u (hR.out.below hb hb.size) (by omega)
  obtain ⟨a2, c2, hcut, hcv⟩ : ∃ a2 c2, (∀ u : World, (Instr.slice 26 (.slice a' n c') (some (.int .i64 24)) none none).run Tryd.prog u = .ok (.slice a2 (n - 24) c2) u) ∧ (∀ u, Below w1.heap.size w1 u → (convert 26 9 (.slice a2 (n - 24) c2)).run Tryd.prog u = .ok (.string (recS P)) u) := by
    have hlr := hR.out.cut (l := 24) hn
    refine ⟨_, _, fun u => run_cut_l a' n c' 24 hn u, fun u hb => ?_⟩
    exact (hlr.has.later hb).conv _
  have HCV := hide hcv
  clear hR hcv
  generalize hS : recS P = S at *
  have HY := hide hS
  clear hS
  have hg : Hid (w.heap.size < w1.heap.size) := HZ.out.lt
  have KB : Hid (∀ u, Below w1.heap.size w1 u → Hid (Below w1.heap.size w1 u) ∧ (convert 26 9 (.slice a2 (n - 24) c2)).run Tryd.prog u = .ok (.string S) u) := fun u h => ⟨h, HCV.out u h⟩
  have HF : Hid (∀ u, Bl u w1.heap.size (Rc (recTake P 0) S) 48 → Below w1.heap.size w1 u → Bl u w1.heap.size (Rc (recTake P 0) S) 48 ∧ Bl u w.heap.size Rz 48 ∧ Below w.heap.size w u) := fun u h hb => ⟨h, HZ.out.call hb, bchain HB.out hb (Nat.le_refl _)⟩
  go_upto_region 6 with fail
  go_cut [10] (fun p wx => p = .pointer (some ⟨w1.heap.size, 0, none⟩) ∧ Hid (Bl wx w1.heap.size (Rc (recTake P 0) S) 48 ∧ Bl wx w.heap.size Rz 48 ∧ Below w.heap.size w wx) ∧ Hid (Below w1.heap.size w1 wx))
  case first =>
    go_region_held3 (fun u => Hid (Below w1.heap.size w1 u) ∧ (convert 26 9 (.slice a2 (n - 24) c2)).run Tryd.prog u = .ok (.string S) u)
      (with_reducible (first | exact unhide KB _ (Below.refl _ _).drew | exact unhide KB _ ((Below.refl _ _).drew.alloc (Nat.le_refl _) _) | exact unhide KB _ ((Below.refl _ _).alloc (Nat.le_refl _) _).drew | fail))
      ((go_at_call 50; refine (unhide KG _ _ _ (by omega) (unhide (‹Hid (Below w1.heap.size w1 _) ∧ _›).1)).mono ?_; rintro e w' ⟨rfl, rfl⟩))
    all_goals
      go_wp2_with fail
      go_meet
      refine ⟨rfl, unhide HF _ ?_ ?_, ?_⟩
      · first
          | exact Bl.new _ _ _
          | trace_state
      · exact (Below.refl _ _).drew.alloc (Nat.le_refl _) _
      · exact (Below.refl _ _).drew.alloc (Nat.le_refl _) _
  case rest =>
    obtain ⟨rfl, hB3, hb1⟩ := hcut
    clear KB HF HZ HB
    go_upto_region 8 with fail
    have HV := hide hB3.out.1
    have HZ := hide hB3.out.2.1
    have HB := hide hB3.out.2.2
    clear hB3
    generalize w1.heap.size = g1 at *
    go_loopw [11] (fun i wr => ∃ k : Nat, k ≤ 4 ∧ i = .int .i64 (k : Int) ∧ Hid (Bl wr g1 (Rc (recTake P k) S) 48) ∧ Hid (Bl wr w.heap.size Rz 48) ∧ Hid (Below w.heap.size w wr) ∧ Hid (Below g1 w1 wr)) (fun i _ => 4 - (intOf i).toNat)
    case atStart => exact ⟨0, by omega, rfl, HV, HZ, HB, hb1⟩
    case round =>
      obtain ⟨k, hk, rfl, hV, hZ, hB, hB1⟩ := hrel
      clear HV HZ HB hb1
      by_cases hlt : k < 4
      · have HX : Hid (Bl (wr.setCell ⟨g1, 2 + k, none⟩ (.int .i64 (getVal P (16 + 2 * (k : Int)) 2))) g1 (Rc (recTake P (k + 1)) S) 48 ∧ Bl (wr.setCell ⟨g1, 2 + k, none⟩ (.int .i64 (getVal P (16 + 2 * (k : Int)) 2))) w.heap.size Rz 48 ∧ Below w.heap.size w (wr.setCell ⟨g1, 2 + k, none⟩ (.int .i64 (getVal P (16 + 2 * (k : Int)) 2))) ∧ Below g1 w1 (wr.setCell ⟨g1, 2 + k, none⟩ (.int .i64 (getVal P (16 + 2 * (k : Int)) 2)))) :=
          ⟨hV.out.rec hlt, hZ.out.other _ _ (Nat.ne_of_lt hg.out), hB.out.setCell (Nat.le_of_lt hg.out) _, hB1.out.setCell (Nat.le_refl _) _⟩
        have HC : Hid ((∃ v, wr.cell? ⟨g1, 2 + k, none⟩ = some (.int .i64 v)) ∧ ∀ i, wr.frozen? ⟨g1, i, none⟩ = false) :=
          ⟨⟨_, hV.out.cell (2 + k) _ (rc_get _ _ _ (by omega))⟩, hV.out.free⟩
        rcases four' hlt with rfl | rfl | rfl | rfl
        all_goals
          go_wp2_with fail
          go_at_call 50
          refine (unhide KG _ _ _ (by omega) hB1.out).mono ?_
          rintro e w' ⟨rfl, rfl⟩
          obtain ⟨⟨v, hc⟩, hz⟩ := HC.out
          obtain ⟨x1, x2, x3, x4⟩ := HX.out
          have X1 := hide x1
          have X2 := hide x2
          have X3 := hide x3
          have X4 := hide x4
          clear HC HX x1 x2 x3 x4 hV hZ hB hB1
          go_wp2_with fail
          exact ⟨⟨_, by decide, rfl, X1, X2, X3, X4⟩, by simp [intOf]⟩
      · obtain rfl : k = 4 := by omega
        have HZ := hide hZ.out
        have HB := hide hB.out
        generalize hX : recTake P 4 = Z at *
        have HX := hide hX
        clear hX KG hB1
        have v0 := hV.out.cell 0 _ rfl
        have v1 := hV.out.cell 1 _ rfl
        have v2 := hV.out.cell 2 _ rfl
        have v3 := hV.out.cell 3 _ rfl
        have v4 := hV.out.cell 4 _ rfl
        have v5 := hV.out.cell 5 _ rfl
        have v6 := hV.out.cell 6 _ rfl
        have v7 := hV.out.cell 7 _ rfl
        have v8 := hV.out.cell 8 _ rfl
        have z0 := HZ.out.cell 0 _ rfl
        have z1 := HZ.out.cell 1 _ rfl
        have z2 := HZ.out.cell 2 _ rfl
        have z3 := HZ.out.cell 3 _ rfl
        have z4 := HZ.out.cell 4 _ rfl
        have z5 := HZ.out.cell 5 _ rfl
        have z6 := HZ.out.cell 6 _ rfl
        have z7 := HZ.out.cell 7 _ rfl
        have z8 := HZ.out.cell 8 _ rfl
        have hz := HZ.out.free
        go_wp2_with fail
        have hW : Below w.heap.size w (setAll wr w.heap.size 0 [.int .i64 (Z 0), .int .i64 (Z 1), .int .i64 (Z 2), .int .i64 (Z 3), .int .i64 (Z 4), .int .i64 (Z 5), .int .i64 (Z 6), .int .i64 (Z 7), .string S]) := below_setAll (Nat.le_refl _) _ _ _ _ HB.out
        have hA : Bl (setAll wr w.heap.size 0 [.int .i64 (Z 0), .int .i64 (Z 1), .int .i64 (Z 2), .int .i64 (Z 3), .int .i64 (Z 4), .int .i64 (Z 5), .int .i64 (Z 6), .int .i64 (Z 7), .string S]) w.heap.size #[.int .i64 (Z 0), .int .i64 (Z 1), .int .i64 (Z 2), .int .i64 (Z 3), .int .i64 (Z 4), .int .i64 (Z 5), .int .i64 (Z 6), .int .i64 (Z 7), .string S] 48 := setAll_whole [.int .i64 (Z 0), .int .i64 (Z 1), .int .i64 (Z 2), .int .i64 (Z 3), .int .i64 (Z 4), .int .i64 (Z 5), .int .i64 (Z 6), .int .i64 (Z 7), .string S] _ _ HZ.out rfl
        change bodyPost _ _ _ _ _ (setAll wr w.heap.size 0 [.int .i64 (Z 0), .int .i64 (Z 1), .int .i64 (Z 2), .int .i64 (Z 3), .int .i64 (Z 4), .int .i64 (Z 5), .int .i64 (Z 6), .int .i64 (Z 7), .string S])
        generalize setAll wr w.heap.size 0 [.int .i64 (Z 0), .int .i64 (Z 1), .int .i64 (Z 2), .int .i64 (Z 3), .int .i64 (Z 4), .int .i64 (Z 5), .int .i64 (Z 6), .int .i64 (Z 7), .string S] = wf at *
        refine bodyPost_ret (v := .tuple #[Rv Z S, .int .i64 nx, .int .i64 0]) ?_ rfl ⟨by first | rfl | (rw [← HX.out, HY.out.symm]; done) | (rw [← HX.out, HY.out.symm]; rfl), hW⟩
        simp [results, Tryd.results26, go_sem, hA.cell 0 _ rfl, hA.cell 1 _ rfl, hA.cell 2 _ rfl, hA.cell 3 _ rfl, hA.cell 4 _ rfl, hA.cell 5 _ rfl, hA.cell 6 _ rfl, hA.cell 7 _ rfl, hA.cell 8 _ rfl]

end Go.Proofs.YtmdkcoenjadieaaDoor

