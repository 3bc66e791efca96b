/- Joined: CUnR, CKeeps. -/
import Derived.Test.YtmdkcoenjadieaaDoorWCTakeR
import Derived.Test.YtmdkcoenjadieaaDoorWUnframe
import Derived.Test.YtmdkcoenjadieaaDoorWJ8
import Derived.Test.YtmdkcoenjadieaaDoorWJ10
import Derived.Test.YtmdkcoenjadieaaDoorWCUnD
import Derived.Test.YtmdkcoenjadieaaDoorWJ46
import Derived.Test.YtmdkcoenjadieaaDoorWJ40
import Derived.Test.YtmdkcoenjadieaaDoorWJ32
import Derived.Test.YtmdkcoenjadieaaDoorWJ26
/- Contracts of codec.Unrecord. -/
namespace Go.Proofs.YtmdkcoenjadieaaDoor
open Go.RowKit Go.Shelf
set_option linter.unusedVariables false
set_option maxRecDepth 100000

set_option maxHeartbeats 4000000 in
theorem unrecord_err (a : Option Addr) (len cap : Nat) (at' : Int) (w : World) (q : Int) (hq : (q != 0) = true) (KU : Hid (∀ u, Below w.heap.size w u → Calls Tryd.prog 60 #[.slice a len cap, .int .i64 at'] u fun e w' => e = .returned (.tuple #[.slice none 0 0, .int .i64 0, .int .i64 q]) ∧ Below u.heap.size u w')) :
    Calls Tryd.prog 25 #[.slice a len cap, .int .i64 at'] w fun e w' => e = .returned (.tuple #[.agg Rz, .int .i64 0, .int .i64 q]) ∧ Below w.heap.size w w' := by
  have HZ := hide (Bl.new w Rz 48)
  have HB := hide ((Below.refl _ w).alloc (Nat.le_refl _) (.cells Rz 48))
  go_enter Tryd.func25, Tryd.ntmps25
  go_wp2_with fail
  go_at_call 60
  refine (unhide KU _ HB.out).mono ?_
  rintro e w1 ⟨rfl, hb⟩
  replace HB := hide (bchain HB.out hb (Nat.le_refl _))
  replace HZ := hide (HZ.out.call hb)
  clear hb KU
  have z0 := HZ.out.cell 0 _ rfl
  have z1 := HZ.out.cell 1 _ rfl
  have z2 := HZ.out.cell 2 _ rfl
  have z3 := HZ.out.cell 3 _ rfl
  have z4 := HZ.out.cell 4 _ rfl
  have z5 := HZ.out.cell 5 _ rfl
  have z6 := HZ.out.cell 6 _ rfl
  have z7 := HZ.out.cell 7 _ rfl
  have z8 := HZ.out.cell 8 _ rfl
  have hz := HZ.out.free
  go_wp2_with fail
  have hW : Below w.heap.size w (setAll w1 w.heap.size 0 [.int .i64 0, .int .i64 0, .int .i64 0, .int .i64 0, .int .i64 0, .int .i64 0, .int .i64 0, .int .i64 0, .string ⟨#[]⟩]) := below_setAll (Nat.le_refl _) _ _ _ _ HB.out
  have hA : Bl (setAll w1 w.heap.size 0 [.int .i64 0, .int .i64 0, .int .i64 0, .int .i64 0, .int .i64 0, .int .i64 0, .int .i64 0, .int .i64 0, .string ⟨#[]⟩]) w.heap.size #[.int .i64 0, .int .i64 0, .int .i64 0, .int .i64 0, .int .i64 0, .int .i64 0, .int .i64 0, .int .i64 0, .string ⟨#[]⟩] 48 := setAll_whole [.int .i64 0, .int .i64 0, .int .i64 0, .int .i64 0, .int .i64 0, .int .i64 0, .int .i64 0, .int .i64 0, .string ⟨#[]⟩] _ _ HZ.out rfl
  change bodyPost _ _ _ _ _ (setAll w1 w.heap.size 0 [.int .i64 0, .int .i64 0, .int .i64 0, .int .i64 0, .int .i64 0, .int .i64 0, .int .i64 0, .int .i64 0, .string ⟨#[]⟩])
  generalize setAll w1 w.heap.size 0 [.int .i64 0, .int .i64 0, .int .i64 0, .int .i64 0, .int .i64 0, .int .i64 0, .int .i64 0, .int .i64 0, .string ⟨#[]⟩] = wf at *
  refine bodyPost_ret (v := .tuple #[.agg Rz, .int .i64 0, .int .i64 q]) ?_ rfl ⟨rfl, hW⟩
  simp [results, Tryd.results25, go_sem, hA.cell 0 _ rfl, hA.cell 1 _ rfl, hA.cell 2 _ rfl, hA.cell 3 _ rfl, hA.cell 4 _ rfl, hA.cell 5 _ rfl, hA.cell 6 _ rfl, hA.cell 7 _ rfl, hA.cell 8 _ rfl]

set_option maxHeartbeats 4000000 in
theorem unrecord_short (a : Option Addr) (len cap : Nat) (at' : Int) (w : World) (n : Nat) (nx : Int) (P : List Int) (hn : n < 24) (KU : Hid (∀ u, Below w.heap.size w u → Calls Tryd.prog 60 #[.slice a len cap, .int .i64 at'] u fun e w' => ∃ a' c', e = .returned (.tuple #[.slice a' n c', .int .i64 nx, .int .i64 0]) ∧ Hid (Row w'.heap.size w' a' n c' P) ∧ Below u.heap.size u w')) :
    Calls Tryd.prog 25 #[.slice a len cap, .int .i64 at'] w fun e w' => e = .returned (.tuple #[.agg Rz, .int .i64 0, .int .i64 4]) ∧ Below w.heap.size w w' := by
  have HZ := hide (Bl.new w Rz 48)
  have HB := hide ((Below.refl _ w).alloc (Nat.le_refl _) (.cells Rz 48))
  go_enter Tryd.func25, Tryd.ntmps25
  go_wp2_with fail
  go_at_call 60
  refine (unhide KU _ HB.out).mono ?_
  rintro e w1 ⟨a', c', rfl, hR, hb⟩
  replace HB := hide (bchain HB.out hb (Nat.le_refl _))
  replace HZ := hide (HZ.out.call hb)
  clear hb KU
  have hd : decide ((n : Int) < 24) = true := by simp; omega
  clear hR
  have z0 := HZ.out.cell 0 _ rfl
  have z1 := HZ.out.cell 1 _ rfl
  have z2 := HZ.out.cell 2 _ rfl
  have z3 := HZ.out.cell 3 _ rfl
  have z4 := HZ.out.cell 4 _ rfl
  have z5 := HZ.out.cell 5 _ rfl
  have z6 := HZ.out.cell 6 _ rfl
  have z7 := HZ.out.cell 7 _ rfl
  have z8 := HZ.out.cell 8 _ rfl
  have hz := HZ.out.free
  go_wp2_with fail
  have hW : Below w.heap.size w (setAll w1 w.heap.size 0 [.int .i64 0, .int .i64 0, .int .i64 0, .int .i64 0, .int .i64 0, .int .i64 0, .int .i64 0, .int .i64 0, .string ⟨#[]⟩]) := below_setAll (Nat.le_refl _) _ _ _ _ HB.out
  have hA : Bl (setAll w1 w.heap.size 0 [.int .i64 0, .int .i64 0, .int .i64 0, .int .i64 0, .int .i64 0, .int .i64 0, .int .i64 0, .int .i64 0, .string ⟨#[]⟩]) w.heap.size #[.int .i64 0, .int .i64 0, .int .i64 0, .int .i64 0, .int .i64 0, .int .i64 0, .int .i64 0, .int .i64 0, .string ⟨#[]⟩] 48 := setAll_whole [.int .i64 0, .int .i64 0, .int .i64 0, .int .i64 0, .int .i64 0, .int .i64 0, .int .i64 0, .int .i64 0, .string ⟨#[]⟩] _ _ HZ.out rfl
  change bodyPost _ _ _ _ _ (setAll w1 w.heap.size 0 [.int .i64 0, .int .i64 0, .int .i64 0, .int .i64 0, .int .i64 0, .int .i64 0, .int .i64 0, .int .i64 0, .string ⟨#[]⟩])
  generalize setAll w1 w.heap.size 0 [.int .i64 0, .int .i64 0, .int .i64 0, .int .i64 0, .int .i64 0, .int .i64 0, .int .i64 0, .int .i64 0, .string ⟨#[]⟩] = wf at *
  refine bodyPost_ret (v := .tuple #[.agg Rz, .int .i64 0, .int .i64 4]) ?_ rfl ⟨rfl, hW⟩
  simp [results, Tryd.results25, go_sem, hA.cell 0 _ rfl, hA.cell 1 _ rfl, hA.cell 2 _ rfl, hA.cell 3 _ rfl, hA.cell 4 _ rfl, hA.cell 5 _ rfl, hA.cell 6 _ rfl, hA.cell 7 _ rfl, hA.cell 8 _ rfl]

set_option maxHeartbeats 4000000 in
theorem unrecord_good (a : Option Addr) (len cap : Nat) (at' : Int) (w : World) (n : Nat) (nx : Int) (P : List Int) (hn : 24 ≤ n) (hn2 : n ≤ 65535) (KU : Hid (∀ u, Below w.heap.size w u → Calls Tryd.prog 60 #[.slice a len cap, .int .i64 at'] u fun e w' => ∃ a' c', e = .returned (.tuple #[.slice a' n c', .int .i64 nx, .int .i64 0]) ∧ Hid (Row w'.heap.size w' a' n c' P) ∧ Below u.heap.size u w')) :
    Calls Tryd.prog 25 #[.slice a len cap, .int .i64 at'] w fun e w' => e = .returned (.tuple #[Rv (recOf P) (recS P), .int .i64 nx, .int .i64 0]) ∧ Below w.heap.size w w' := by
  have HZ := hide (Bl.new w Rz 48)
  have HB := hide ((Below.refl _ w).alloc (Nat.le_refl _) (.cells Rz 48))
  go_enter Tryd.func25, Tryd.ntmps25
  go_wp2_with fail
  go_at_call 60
  refine (unhide KU _ HB.out).mono ?_
  rintro e w1 ⟨a', c', rfl, hR, hb⟩
  replace HB := hide (bchain HB.out hb (Nat.le_refl _))
  replace HZ := hide (HZ.out.call hb)
  clear hb KU
  have hd : decide ((n : Int) < 24) = false := by simp; omega
  have KT := hide (takeRecord_any a' n c' P w1 hR.out hn)
  clear hR
  generalize hZ : recOf P = Z at *
  generalize hS : recS P = S at *
  have HX := hide hZ
  have HY := hide hS
  clear hZ hS
  go_wp2_with fail
  go_at_call 61
  refine (unhide KT).mono ?_
  rintro e w2 ⟨rfl, hb⟩
  replace HB := hide (bchain HB.out hb (Nat.le_refl _))
  replace HZ := hide (HZ.out.call hb)
  clear hb KT
  have z0 := HZ.out.cell 0 _ rfl
  have z1 := HZ.out.cell 1 _ rfl
  have z2 := HZ.out.cell 2 _ rfl
  have z3 := HZ.out.cell 3 _ rfl
  have z4 := HZ.out.cell 4 _ rfl
  have z5 := HZ.out.cell 5 _ rfl
  have z6 := HZ.out.cell 6 _ rfl
  have z7 := HZ.out.cell 7 _ rfl
  have z8 := HZ.out.cell 8 _ rfl
  have hz := HZ.out.free
  go_wp2_with fail
  have hW : Below w.heap.size w (setAll w2 w.heap.size 0 [.int .i64 (Z 0), .int .i64 (Z 1), .int .i64 (Z 2), .int .i64 (Z 3), .int .i64 (Z 4), .int .i64 (Z 5), .int .i64 (Z 6), .int .i64 (Z 7), .string S]) := below_setAll (Nat.le_refl _) _ _ _ _ HB.out
  have hA : Bl (setAll w2 w.heap.size 0 [.int .i64 (Z 0), .int .i64 (Z 1), .int .i64 (Z 2), .int .i64 (Z 3), .int .i64 (Z 4), .int .i64 (Z 5), .int .i64 (Z 6), .int .i64 (Z 7), .string S]) w.heap.size #[.int .i64 (Z 0), .int .i64 (Z 1), .int .i64 (Z 2), .int .i64 (Z 3), .int .i64 (Z 4), .int .i64 (Z 5), .int .i64 (Z 6), .int .i64 (Z 7), .string S] 48 := setAll_whole [.int .i64 (Z 0), .int .i64 (Z 1), .int .i64 (Z 2), .int .i64 (Z 3), .int .i64 (Z 4), .int .i64 (Z 5), .int .i64 (Z 6), .int .i64 (Z 7), .string S] _ _ HZ.out rfl
  change bodyPost _ _ _ _ _ (setAll w2 w.heap.size 0 [.int .i64 (Z 0), .int .i64 (Z 1), .int .i64 (Z 2), .int .i64 (Z 3), .int .i64 (Z 4), .int .i64 (Z 5), .int .i64 (Z 6), .int .i64 (Z 7), .string S])
  generalize setAll w2 w.heap.size 0 [.int .i64 (Z 0), .int .i64 (Z 1), .int .i64 (Z 2), .int .i64 (Z 3), .int .i64 (Z 4), .int .i64 (Z 5), .int .i64 (Z 6), .int .i64 (Z 7), .string S] = wf at *
  refine bodyPost_ret (v := .tuple #[Rv Z S, .int .i64 nx, .int .i64 0]) ?_ rfl ⟨by first | rfl | rw [HX.out, HY.out], hW⟩
  simp [results, Tryd.results25, go_sem, hA.cell 0 _ rfl, hA.cell 1 _ rfl, hA.cell 2 _ rfl, hA.cell 3 _ rfl, hA.cell 4 _ rfl, hA.cell 5 _ rfl, hA.cell 6 _ rfl, hA.cell 7 _ rfl, hA.cell 8 _ rfl]

/-- Own memory, read as a row. -/
theorem Own.rowH {B : Nat} {w : World} {a : Option Addr} {n c : Nat} {xs : List Int} (h : Own B w a n c xs) (hb : ∀ z ∈ xs, 0 ≤ z ∧ z ≤ 255) (hn : n ≤ 140737488351232) : Row w.heap.size w a n c xs :=
  row_of_has h.has hb h.2.1 (by have := h.2.2.1; unfold maxLen at this; omega) hn

/-- A reader's answer of three. -/
def RA3 (f : FuncId) (args : Array Value) (v : Value) (n q : Int) (u : World) : Prop :=
  Calls Tryd.prog f args u fun e w' => e = .returned (.tuple #[v, .int .i64 n, .int .i64 q]) ∧ Below u.heap.size u w'

/-- What a frame in bytes holds. -/
def payB (zs : List Int) (at' : Int) : List Int := (((zs.drop at'.toNat).drop 2).take (sizeB (zs.drop at'.toNat)))

theorem unrecord_any (a : Option Addr) (len cap : Nat) (zs : List Int) (at' : Int) (u : World) (hT : Tab u) (hr : Row u.heap.size u a len cap zs) :
    (unE zs at' ≠ 0 → RA3 25 #[.slice a len cap, .int .i64 at'] (.agg Rz) 0 (unE zs at') u) ∧
    (unE zs at' = 0 → sizeB (zs.drop at'.toNat) < 24 → RA3 25 #[.slice a len cap, .int .i64 at'] (.agg Rz) 0 4 u) ∧
    (unE zs at' = 0 → 24 ≤ sizeB (zs.drop at'.toNat) → RA3 25 #[.slice a len cap, .int .i64 at'] (Rv (recOf (payB zs at')) (recS (payB zs at'))) (at' + (sizeB (zs.drop at'.toNat) : Int) + 6) 0 u) := by
  have KU : ∀ u2, Below u.heap.size u u2 → Calls Tryd.prog 60 #[.slice a len cap, .int .i64 at'] u2 fun e w' => UnAns u2 w' e at' (zs.drop at'.toNat) (unE zs at') ∧ Below u2.heap.size u2 w' := fun u2 hb => unframe_any a len cap zs at' u2 (hr.below hb hb.size) (hT.below hb (tab_size hT))
  have hbz : Byts (zs.drop at'.toNat) := fun z hz => hr.2.2.2.1 z (List.mem_of_mem_drop hz)
  have good : unE zs at' = 0 → sizeB (zs.drop at'.toNat) ≤ 65535 ∧ Hid (∀ u2, Below u.heap.size u u2 → Calls Tryd.prog 60 #[.slice a len cap, .int .i64 at'] u2 fun e w' => ∃ a' c', e = .returned (.tuple #[.slice a' (sizeB (zs.drop at'.toNat)) c', .int .i64 (at' + (sizeB (zs.drop at'.toNat) : Int) + 6), .int .i64 0]) ∧ Hid (Row w'.heap.size w' a' (sizeB (zs.drop at'.toNat)) c' (payB zs at')) ∧ Below u2.heap.size u2 w') := by
    intro h0
    have hsz : sizeB (zs.drop at'.toNat) ≤ 65535 := by
      have h0' := h0
      unfold unE at h0'
      split at h0'
      · omega
      · split at h0'
        · omega
        · rcases restE_cases (zs.drop at'.toNat) with h | h | h | h
          · omega
          · omega
          · omega
          · exact (sizeB_num hbz (by omega)).2
    refine ⟨hsz, fun u2 hb => (KU u2 hb).mono ?_⟩
    rintro e w' ⟨hA, hb'⟩
    rcases hA with ⟨h1, _⟩ | ⟨_, a', c', e1, hO⟩
    · exact absurd h0 h1
    · exact ⟨a', c', e1, hO.rowH (fun z hz => hbz z (List.mem_of_mem_drop (List.mem_of_mem_take hz))) (by omega), hb'⟩
  refine ⟨fun h => ?_, fun h h2 => ?_, fun h h2 => ?_⟩
  · refine unrecord_err a len cap at' u (unE zs at') (by simpa using h) fun u2 hb => (KU u2 hb).mono ?_
    rintro e w' ⟨hA, hb'⟩
    rcases hA with ⟨_, e1⟩ | ⟨h1, _⟩
    · exact ⟨e1, hb'⟩
    · exact absurd h1 h
  · exact unrecord_short a len cap at' u _ _ _ h2 (good h).2
  · exact unrecord_good a len cap at' u _ _ _ h2 (good h).1 (good h).2

end Go.Proofs.YtmdkcoenjadieaaDoor

/- CodecKeeps' walk. -/
namespace Go.Proofs.YtmdkcoenjadieaaDoor
open Go.RowKit Go.Shelf
set_option linter.unusedVariables false
set_option maxRecDepth 100000

theorem iown_of {B : Nat} {w : World} {v : Value} {n : Nat} {ns : List Int} (h : w.ownsRow B 3 1 v n (ns.map (Value.int .i64))) : ∃ a c, v = .slice a n c ∧ IOwn B w a n c ns := by
  obtain ⟨h1, h2⟩ := h
  have hl : ns.length = n := by simpa using h1
  rcases h2 with ⟨rfl, rfl⟩ | ⟨g, cap, cur, rfl, hg, hh, h2, h3, hc, ht⟩
  · exact ⟨none, 0, rfl, hl, Nat.le_refl _, by unfold maxLen; omega, .inl ⟨rfl, rfl, rfl⟩⟩
  · exact ⟨_, cap, rfl, hl, h2, h3, .inr ⟨g, cur, rfl, hg, hh, by simpa using hc, by simpa using ht⟩⟩

theorem iown_has {B : Nat} {w : World} {a : Option Addr} {n c : Nat} {ns : List Int} (h : IOwn B w a n c ns) : IHas w a n ns := by
  refine ⟨h.1, fun hp => ?_⟩
  obtain ⟨g, e, _, _, _⟩ := h.cell (j := 0) hp
  refine ⟨g, 0, e, fun j hj => ?_⟩
  obtain ⟨g', e', _, hc, _⟩ := h.cell hj
  rw [e] at e'
  cases e'
  rw [Nat.zero_add]
  exact hc

/-- append([]int{}, x...): a row of the call's own. -/
theorem app_intsO {w : World} {a : Option Addr} {n c : Nat} {ns : List Int} (h : IHas w a n ns) (hn : n ≤ 17592186043904) :
    ∃ a1 c1 w1, (∀ ty, (Builtin.append_ #[38, 38] ty #[.slice (some ⟨w.heap.size, 0, none⟩) 0 0, .slice a n c]).run Tryd.prog (w.alloc (.cells #[] 3)) = .ok (.slice a1 n c1) w1) ∧ IOwn w.heap.size w1 a1 n c1 ns ∧ Below w.heap.size w w1 := by
  obtain ⟨i0, hi, hz0, hz1, hz2⟩ := info_parts info3
  have hb0 : Below w.heap.size w (w.alloc (.cells #[] 3)) := (Below.refl _ w).alloc (Nat.le_refl _) _
  by_cases h0 : n = 0
  · subst h0
    obtain rfl : ns = [] := List.eq_nil_of_length_eq_zero h.1
    refine ⟨some ⟨w.heap.size, 0, none⟩, 0, _, fun ty => ?_, ⟨rfl, Nat.le_refl _, by unfold maxLen; omega, .inr ⟨w.heap.size, #[], rfl, Nat.le_refl _, World.alloc_heap_new w _, rfl, rfl⟩⟩, hb0⟩
    cases a <;> simp [Builtin.append_, run_underlying Tryd.underlying38, sizeOf, typeInfo, hi, Builtin.lenOf, Builtin.firstCells, storeCells, loadCells, loadCellsFrom]
  · obtain ⟨b, off, rfl, hc⟩ := (h.later hb0).2 (by omega)
    have hl := h.1
    have hnews : ∀ (j : Nat) (u : Value), (ns.map (Value.int .i64))[j]? = some u → (w.alloc (.cells #[] 3)).cell? ((⟨b, off, none⟩ : Addr).add j) = some u := by
      intro j u hj
      have hjl : j < n := by have := (List.getElem?_eq_some_iff.1 hj).1; simp at this; omega
      rw [World.add_zero_spot, hc j hjl]
      rw [List.getElem?_map, List.getElem?_eq_getElem (by omega)] at hj
      rw [List.getElem?_eq_getElem (by omega)]
      simpa using hj
    have hown : (w.alloc (.cells #[] 3)).ownsRow w.heap.size 3 1 (.slice (some ⟨w.heap.size, 0, none⟩) 0 0) 0 [] :=
      ⟨rfl, .inr ⟨w.heap.size, 0, #[], rfl, Nat.le_refl _, World.alloc_heap_new w _, Nat.le_refl _, by unfold maxLen; omega, rfl, rfl⟩⟩
    obtain ⟨v', w', hr, ho, hg, _⟩ := run_append_own (P := Tryd.prog) (w.alloc (.cells #[] 3)) w.heap.size 38 0 3 i0 (.int .i64 0) 1 8 Tryd.underlying38 hi hz0 hz1 hz2 rfl (by decide) (.slice (some ⟨w.heap.size, 0, none⟩) 0 0) 0 [] hown ⟨b, off, none⟩ n c (ns.map (Value.int .i64)) (by simp [hl]) hnews (oneCell_ints ns) (by unfold maxLen; omega) (by omega) (by simp)
    rw [Nat.zero_add, List.nil_append] at ho
    obtain ⟨a', c', rfl, hI⟩ := iown_of ho
    exact ⟨a', c', w', fun ty => hr, hI, hb0.grown hg (by simp) (fun k e => by simp [Value.ownBlock] at e; omega)⟩

/-- What a call has answered: nil, or a list at the start of a new row. -/
def IMd (w w' : World) (a : Option Addr) (l c : Nat) : Prop := l ≤ 17592186043904 ∧ ∃ xs, IOwn w.heap.size w' a l c xs

theorem desc_item (a : Option Addr) (len cap : Nat) (ns : List Int) (w : World) (hi : IHas w a len ns) (hl : len ≤ 17592186043904) (hT : Tab w) :
    Calls Tryd.prog 18 #[.int .i64 5, .slice a len cap, .int .i64 128] w fun e w' => ∃ a' l c x, e = .returned (.tuple #[.slice a' l c, .int .i64 x]) ∧ Hid (Made w w' a' l c) ∧ Hid (Below w.heap.size w w') := by
  by_cases he : descE ((128 : Nat) : Int) 5 ns = 0
  · refine (desc_ok 5 a len cap ns 128 w hi hT he).mono ?_
    rintro e w' ⟨g, rfl, hg, hB, hb⟩
    exact ⟨_, _, _, _, rfl, ⟨by omega, _, hB.out.own (descB_length (descE_length he).1) hg (by omega)⟩, hb⟩
  · refine (desc_err 5 a len cap ns 128 w hi hl he).mono ?_
    rintro e w' ⟨rfl, hb⟩
    exact ⟨_, _, _, _, rfl, ⟨Nat.zero_le _, [], Own.nil _ _⟩, hb⟩

theorem row_iown {u : World} {gr B : Nat} {zs : List Int} {N : Nat} (h : Bl u gr (rowK zs N N) 3) (hB : B ≤ gr) (hN : N ≤ 65535) : IOwn B u (some ⟨gr, 0, none⟩) N N (takeL zs N) := by
  refine ⟨takeL_length zs N, Nat.le_refl _, by unfold maxLen; omega, .inr ⟨gr, rowK zs N N, rfl, hB, h, by simp [rowK, takeL_length], ?_⟩⟩
  simp only [rowK, Nat.sub_self, List.replicate_zero, List.append_nil]
  exact List.take_of_length_le (by simp [takeL_length])

theorem undesc_item (a : Option Addr) (len cap : Nat) (zs : List Int) (w : World) (hr : Row w.heap.size w a len cap zs) (hT : Tab w) :
    Calls Tryd.prog 20 #[.slice a len cap] w fun e w' => ∃ qv a' l c x, e = .returned (.tuple #[.int .i64 qv, .slice a' l c, .int .i64 x]) ∧ Hid (IMd w w' a' l c) ∧ Hid (Below w.heap.size w w') := by
  have hd := dN_le hr.2.2.2.1
  by_cases h : descIs zs
  · refine (undesc_is a len cap zs w hr hT h).mono ?_
    rintro e w' ⟨gr, rfl, hg, hR, hb⟩
    exact ⟨_, _, _, _, _, rfl, ⟨by omega, _, row_iown hR.out hg hd.1⟩, hb⟩
  · refine (undesc_not a len cap zs w hr hT h).mono ?_
    rintro e w' ⟨rfl, hb⟩
    exact ⟨_, _, _, _, _, rfl, ⟨Nat.zero_le _, [], ⟨rfl, Nat.le_refl _, Nat.zero_le _, .inl ⟨rfl, rfl, rfl⟩⟩⟩, hb⟩

theorem IOwn.stay {B : Nat} {w w' : World} {a : Option Addr} {n c : Nat} {ns : List Int} (h : IOwn B w a n c ns) (hs : Stay w w') : IOwn B w' a n c ns := by
  obtain ⟨h1, h2, h3, h4⟩ := h
  refine ⟨h1, h2, h3, ?_⟩
  rcases h4 with h4 | ⟨g, cur, e, hg, hh, r⟩
  · exact .inl h4
  · exact .inr ⟨g, cur, e, hg, hs g cur hh, r⟩

/-- Two rows of bytes, apart. -/
theorem apart_two (w2 w3 w4 u : World) (a1 a2 : Option Addr) (l1 l2 c1 c2 : Nat) (m1 : Made w2 w3 a1 l1 c1) (m2 : Made w3 w4 a2 l2 c2) (b1 : Below w2.heap.size w2 w3) (b2 : Below w3.heap.size w3 w4) (b3 : Below w4.heap.size w4 u) (g : Nat) (hg : g = u.heap.size) :
    Calls Tryd.prog 33 #[.slice (some ⟨g, 0, none⟩) 2 2] (u.alloc (.cells #[.slice a1 l1 c1, .slice a2 l2 c2] 26)) fun e w' => e = .returned (.bool true) ∧ BI w2.heap.size u w' := by
  subst hg
  obtain ⟨k1, x1, o1⟩ := m1
  obtain ⟨k2, x2, o2⟩ := m2
  have s1 := b1.size
  have s2 := b2.size
  have s3 := b3.size
  obtain ⟨W, hW⟩ : ∃ W, u.alloc (.cells #[.slice a1 l1 c1, .slice a2 l2 c2] 26) = W := ⟨_, rfl⟩
  have bW : Below u.heap.size u W := by rw [← hW]; exact (Below.refl _ u).alloc (Nat.le_refl _) _
  have hL : W.heap[u.heap.size]? = some (.cells ([(a1, l1, c1), (a2, l2, c2)].map sval).toArray 26 (0, 0)) := by
    rw [← hW]; exact World.alloc_heap_new u _
  have e2 : Own w3.heap.size W a2 l2 c2 x2 := (o2.below b3 (Nat.le_refl _)).below bW (Nat.le_refl _)
  have e1 : Own w2.heap.size W a1 l1 c1 x1 := ((o1.below b2 (Nat.le_refl _)).below b3 (Nat.le_refl _)).below bW (Nat.le_refl _)
  rw [hW]
  refine (apart_list w2.heap.size u.heap.size 2 [(a1, l1, c1), (a2, l2, c2)] W rfl (by omega) ?_ (by omega) ?_ hL ?_).mono ?_
  · intro t ht
    simp at ht
    rcases ht with rfl | rfl <;> assumption
  · refine List.Pairwise.cons ?_ (List.Pairwise.cons ?_ List.Pairwise.nil)
    · intro v hv
      simp at hv
      subst hv
      exact aside_of (t := (a1, l1, c1)) (u := (a2, l2, c2)) o1 o2 (by omega)
    · intro v hv
      simp at hv
  · intro t ht
    simp at ht
    rcases ht with rfl | rfl
    · exact ⟨x1, e1⟩
    · exact ⟨x2, e2.base (by omega)⟩
  · rintro e w' ⟨rfl, hb⟩
    exact ⟨rfl, (bW.mono (by omega)).trans hb.1, fun k cs hk => hb.2 k cs ((bW.block k (Array.getElem?_eq_some_iff.1 hk).1).trans hk)⟩

theorem IAside.symm {t u : ITrip} (h : IAside t u) : IAside u t := fun g e e' => h g e' e

/-- Three lists, apart. -/
theorem apart_three (w1 w2 w4 w5 w6 u : World) (a1 a2 a3 : Option Addr) (l1 l2 l3 c1 c2 c3 : Nat) (m1 : IMd w4 w5 a1 l1 c1) (m2 : IMd w5 w6 a2 l2 c2) (m3 : IMd w1 w2 a3 l3 c3) (s1 : w1.heap.size ≤ w2.heap.size ∧ w2.heap.size ≤ w4.heap.size ∧ w4.heap.size ≤ w5.heap.size ∧ w5.heap.size ≤ w6.heap.size ∧ w6.heap.size ≤ u.heap.size)
    (k1 : ∃ xs, IOwn w4.heap.size u a1 l1 c1 xs) (k2 : ∃ xs, IOwn w5.heap.size u a2 l2 c2 xs) (k3 : ∃ xs, IOwn w1.heap.size u a3 l3 c3 xs) (g : Nat) (hg : g = u.heap.size) :
    Calls Tryd.prog 34 #[.slice (some ⟨g, 0, none⟩) 3 3] (u.alloc (.cells #[.slice a1 l1 c1, .slice a2 l2 c2, .slice a3 l3 c3] 38)) fun e w' => e = .returned (.bool true) ∧ Below w1.heap.size u w' := by
  subst hg
  obtain ⟨h1, x1, o1⟩ := m1
  obtain ⟨h2, x2, o2⟩ := m2
  obtain ⟨h3, x3, o3⟩ := m3
  obtain ⟨y1, k1⟩ := k1
  obtain ⟨y2, k2⟩ := k2
  obtain ⟨y3, k3⟩ := k3
  obtain ⟨W, hW⟩ : ∃ W, u.alloc (.cells #[.slice a1 l1 c1, .slice a2 l2 c2, .slice a3 l3 c3] 38) = W := ⟨_, rfl⟩
  have bW : Below u.heap.size u W := by rw [← hW]; exact (Below.refl _ u).alloc (Nat.le_refl _) _
  have hL : W.heap[u.heap.size]? = some (.cells ([(a1, l1, c1), (a2, l2, c2), (a3, l3, c3)].map isval).toArray 38 (0, 0)) := by
    rw [← hW]; exact World.alloc_heap_new u _
  rw [hW]
  refine (iapart_list w1.heap.size u.heap.size 3 [(a1, l1, c1), (a2, l2, c2), (a3, l3, c3)] W rfl (by omega) ?_ (by omega) ?_ hL ?_).mono ?_
  · intro t ht
    simp at ht
    rcases ht with rfl | rfl | rfl <;> assumption
  · refine List.Pairwise.cons ?_ (List.Pairwise.cons ?_ (List.Pairwise.cons ?_ List.Pairwise.nil))
    · intro v hv
      simp at hv
      rcases hv with rfl | rfl
      · exact iaside_of (t := (a1, l1, c1)) (u := (a2, l2, c2)) o1 o2 (by omega)
      · exact (iaside_of (t := (a3, l3, c3)) (u := (a1, l1, c1)) o3 o1 (by omega)).symm
    · intro v hv
      simp at hv
      subst hv
      exact (iaside_of (t := (a3, l3, c3)) (u := (a2, l2, c2)) o3 o2 (by omega)).symm
    · intro v hv
      simp at hv
  · intro t ht
    simp at ht
    rcases ht with rfl | rfl | rfl
    · exact ⟨y1, (k1.below bW (Nat.le_refl _)).base (by omega)⟩
    · exact ⟨y2, (k2.below bW (Nat.le_refl _)).base (by omega)⟩
    · exact ⟨y3, k3.below bW (Nat.le_refl _)⟩
  · rintro e w' ⟨rfl, hb⟩
    exact ⟨rfl, (bW.mono (by omega)).trans hb⟩

theorem uninode_below (a : Option Addr) (len cap : Nat) (zs : List Int) (u : World) (hr : Row u.heap.size u a len cap zs) : ∃ X q, RA 28 #[.slice a len cap] (Iv X) q u := by
  by_cases h : inoIs zs
  · exact ⟨_, _, uninode_yes a len cap zs u hr h⟩
  · exact ⟨_, _, uninode_no a len cap zs u hr h⟩

theorem undirent_below (a : Option Addr) (len cap : Nat) (zs : List Int) (u : World) (hr : Row u.heap.size u a len cap zs) : ∃ i s q, RA 29 #[.slice a len cap] (Dv i s) q u := by
  by_cases h : dirIs zs
  · exact ⟨_, _, _, undirent_yes a len cap zs u hr h⟩
  · exact ⟨_, _, _, undirent_no a len cap zs u hr h⟩

theorem unrecord_below (a : Option Addr) (len cap : Nat) (zs : List Int) (u : World) (hT : Tab u) (hr : Row u.heap.size u a len cap zs) : ∃ Z s n q, RA3 25 #[.slice a len cap, .int .i64 0] (Rv Z s) n q u := by
  have h := unrecord_any a len cap zs 0 u hT hr
  by_cases h1 : unE zs 0 = 0
  · by_cases h2 : sizeB (zs.drop (0 : Int).toNat) < 24
    · exact ⟨fun _ => 0, ⟨#[]⟩, _, _, h.2.1 h1 h2⟩
    · exact ⟨_, _, _, _, h.2.2 h1 (by omega)⟩
  · exact ⟨fun _ => 0, ⟨#[]⟩, _, _, h.1 h1⟩

set_option maxHeartbeats 16000000 in
theorem ckeeps_walk (al : Option Addr) (ll cl : Nat) (ns : List Int) (a : Option Addr) (len cap : Nat) (zs : List Int) (w : World) (hi : IHas w al ll ns) (hll : ll ≤ 17592186043904) (hr : Row w.heap.size w a len cap zs) (hT : Tab w) :
    Calls Tryd.prog 7 #[.slice al ll cl, .slice a len cap] w fun e w' => e = .returned (.bool true) ∧ Below w.heap.size w w' := by
  have hlen := hr.1
  have hl := hr.2.2.1.1
  have HR := hide hr
  have HI := hide hi
  have HT : Hid (∀ u, Below w.heap.size w u → Tab u) := fun u hb => hT.below hb (tab_size hT)
  have KW := hide wakes_any
  have RR : Hid (∀ (R : Nat) (u : World), Block u R (rm zs 4) → Row u.heap.size u (some ⟨R, 0, none⟩) len (len + 4) zs) := fun R u h => room_row h hlen hl HR.out.2.2.2.1
  clear hr hT hi
  go_enter Tryd.func7, Tryd.ntmps7
  go_wp2_with fail
  go_at_call 8
  refine (unhide KW _).mono ?_
  rintro e wa ⟨rfl, hb1⟩
  have B1 := hide hb1
  clear hb1 KW
  go_wp2_with fail
  go_at_call 31
  refine (roomy_any a len cap zs wa (HR.out.below B1.out B1.out.size)).mono ?_
  rintro e w1 ⟨rfl, hR2, hb2⟩
  have C1 : Hid (Below w.heap.size w w1) := bchain B1.out hb2 (Nat.le_refl _)
  generalize wa.heap.size = R at *
  have R1 := hide hR2
  clear hR2 hb2 B1
  obtain ⟨a6, c6, w2, r6, o6, b6⟩ := app_intsO (c := cl) (HI.out.later C1.out) hll
  have RX := hide r6
  have O2 := hide o6
  have D1 := hide b6
  have C2 : Hid (Below w.heap.size w w2) := bchain C1.out b6 (Nat.le_refl _)
  have R2 : Hid (Block w2 R (rm zs 4)) := R1.out.below b6 R1.out.lt
  clear r6 o6 b6
  go_wp2_with (at_builtin; refine wpList_append_run 38 rfl _ _ rfl _ _ _ rfl rfl (unhide RX) ?_; clear RX)
  go_at_call 18
  refine Calls.mono (desc_item a6 ll c6 ns w2 (iown_has O2.out) hll (HT.out _ C2.out)) ?_
  rintro e w3 ⟨ax, lx, cx, x1, rfl, M2, D2⟩
  have R3 : Hid (Block w3 R (rm zs 4)) := R2.out.below D2.out R2.out.lt
  have C3 : Hid (Below w.heap.size w w3) := bchain C2.out D2.out (Nat.le_refl _)
  have O3 := hide (O2.out.below D2.out (Nat.le_refl _))
  go_wp2_with fail
  go_at_call 18
  refine Calls.mono (desc_item a6 ll c6 ns w3 (iown_has O3.out) hll (HT.out _ C3.out)) ?_
  rintro e w4 ⟨ay, ly, cy, x2, rfl, M3, D3⟩
  have R4 : Hid (Block w4 R (rm zs 4)) := R3.out.below D3.out R3.out.lt
  have C4 : Hid (Below w.heap.size w w4) := bchain C3.out D3.out (Nat.le_refl _)
  have O4 := hide (O3.out.below D3.out (Nat.le_refl _))
  go_wp2_with fail
  go_at_call 20
  refine Calls.mono (undesc_item _ len (len + 4) zs w4 (RR.out _ _ R4.out) (HT.out _ C4.out)) ?_
  rintro e w5 ⟨q1, ap, lp, cp, x3, rfl, M4, D4⟩
  have R5 : Hid (Block w5 R (rm zs 4)) := R4.out.below D4.out R4.out.lt
  have C5 : Hid (Below w.heap.size w w5) := bchain C4.out D4.out (Nat.le_refl _)
  have O5 := hide (O4.out.below D4.out (Nat.le_refl _))
  go_wp2_with fail
  go_at_call 20
  refine Calls.mono (undesc_item _ len (len + 4) zs w5 (RR.out _ _ R5.out) (HT.out _ C5.out)) ?_
  rintro e w6 ⟨q2, aq, lq, cq, x4, rfl, M5, D5⟩
  have R6 : Hid (Block w6 R (rm zs 4)) := R5.out.below D5.out R5.out.lt
  have C6 : Hid (Below w.heap.size w w6) := bchain C5.out D5.out (Nat.le_refl _)
  have O6 := hide (O5.out.below D5.out (Nat.le_refl _))
  obtain ⟨PP, qq, S6a⟩ := unsuper_ans (some ⟨R, 0, none⟩) len (len + 4) zs
  have K6 := hide (S6a w6 (HT.out _ C6.out) (RR.out _ _ R6.out)).1
  clear S6a
  go_wp2_with fail
  go_at_call 13
  refine Calls.mono (unhide K6) ?_
  rintro e w7 ⟨rfl, d6⟩
  have D6 := hide d6
  clear d6 K6
  have R7 : Hid (Block w7 R (rm zs 4)) := R6.out.below D6.out R6.out.lt
  have C7 : Hid (Below w.heap.size w w7) := bchain C6.out D6.out (Nat.le_refl _)
  have O7 := hide (O6.out.below D6.out (Nat.le_refl _))
  obtain ⟨HH, qh, S7a⟩ := unheader_ans (some ⟨R, 0, none⟩) len (len + 4) zs
  have K7 := hide (S7a w7 (HT.out _ C7.out) (RR.out _ _ R7.out)).1
  clear S7a
  go_wp2_with fail
  go_at_call 15
  refine Calls.mono (unhide K7) ?_
  rintro e w8 ⟨rfl, d7⟩
  have D7 := hide d7
  clear d7 K7
  have R8 : Hid (Block w8 R (rm zs 4)) := R7.out.below D7.out R7.out.lt
  have C8 : Hid (Below w.heap.size w w8) := bchain C7.out D7.out (Nat.le_refl _)
  have O8 := hide (O7.out.below D7.out (Nat.le_refl _))
  obtain ⟨X8, q8, S8⟩ := uninode_below _ len (len + 4) zs w8 (RR.out _ _ R8.out)
  have K8 := hide S8
  clear S8
  go_wp2_with fail
  go_at_call 28
  refine Calls.mono (unhide K8) ?_
  rintro e w9 ⟨rfl, d8⟩
  have D8 := hide d8
  clear d8 K8
  have R9 : Hid (Block w9 R (rm zs 4)) := R8.out.below D8.out R8.out.lt
  have C9 : Hid (Below w.heap.size w w9) := bchain C8.out D8.out (Nat.le_refl _)
  have O9 := hide (O8.out.below D8.out (Nat.le_refl _))
  obtain ⟨i9, s9, q9, S9⟩ := undirent_below _ len (len + 4) zs w9 (RR.out _ _ R9.out)
  have K9 := hide S9
  clear S9
  go_wp2_with fail
  go_at_call 29
  refine Calls.mono (unhide K9) ?_
  rintro e w10 ⟨rfl, d9⟩
  have D9 := hide d9
  clear d9 K9
  have R10 : Hid (Block w10 R (rm zs 4)) := R9.out.below D9.out R9.out.lt
  have C10 : Hid (Below w.heap.size w w10) := bchain C9.out D9.out (Nat.le_refl _)
  have O10 := hide (O9.out.below D9.out (Nat.le_refl _))
  obtain ⟨Z10, s10, n10, q10, S10⟩ := unrecord_below _ len (len + 4) zs w10 (HT.out _ C10.out) (RR.out _ _ R10.out)
  have K10 := hide S10
  clear S10
  go_wp2_with fail
  go_at_call 25
  refine Calls.mono (unhide K10) ?_
  rintro e w11 ⟨rfl, d10⟩
  have D10 := hide d10
  clear d10 K10
  have R11 : Hid (Block w11 R (rm zs 4)) := R10.out.below D10.out R10.out.lt
  have C11 : Hid (Below w.heap.size w w11) := bchain C10.out D10.out (Nat.le_refl _)
  have O11 := hide (O10.out.below D10.out (Nat.le_refl _))
  go_wp2_with fail
  go_at_call 22
  refine (sameInts_any a6 al ll c6 cl ns w11 (iown_has O11.out) (HI.out.later C11.out) (by omega)).mono ?_
  rintro e w' ⟨rfl, m, rfl⟩
  have KK : Hid (∀ u, Below w11.heap.size w11 u → Calls Tryd.prog 32 #[.slice (some ⟨R, 0, none⟩) len (len + 4), .slice a len cap] u fun e w' => e = .returned (.bool true) ∧ Below u.heap.size u w') := fun u hb => kept_any R a len cap zs u hl (R11.out.below hb R11.out.lt) (HR.out.has.later (bchain C11.out hb (Nat.le_refl _)))
  have d11 : Below w11.heap.size w11 (w11.drewN m) := below_drewN (Below.refl _ _) m
  go_wp2_with fail
  go_at_call 32
  refine (unhide KK _ d11).mono ?_
  rintro e w12 ⟨rfl, d12⟩
  have D11 : Hid (Below w11.heap.size w11 w12) := d11.trans d12
  clear d11 d12 KK
  have R12 : Hid (Block w12 R (rm zs 4)) := R11.out.below D11.out R11.out.lt
  have C12 : Hid (Below w.heap.size w w12) := bchain C11.out D11.out (Nat.le_refl _)
  have O12 := hide (O11.out.below D11.out (Nat.le_refl _))
  have KA := hide (apart_two w2 w3 w4 w12 ax ay lx ly cx cy M2.out M3.out D2.out D3.out (bchain (bchain (bchain (bchain (bchain (bchain (bchain D4.out D5.out (Nat.le_refl _)) D6.out (Nat.le_refl _)) D7.out (Nat.le_refl _)) D8.out (Nat.le_refl _)) D9.out (Nat.le_refl _)) D10.out (Nat.le_refl _)) D11.out (Nat.le_refl _)) w12.heap.size rfl)
  have Lp : Hid (∃ xs, IOwn w4.heap.size w12 ap lp cp xs) := by
    obtain ⟨_, xs, o⟩ := M4.out
    exact ⟨xs, ((((((o.below D5.out (Nat.le_refl _)).below D6.out (Nat.le_refl _)).below D7.out (Nat.le_refl _)).below D8.out (Nat.le_refl _)).below D9.out (Nat.le_refl _)).below D10.out (Nat.le_refl _)).below D11.out (Nat.le_refl _)⟩
  have Lq : Hid (∃ xs, IOwn w5.heap.size w12 aq lq cq xs) := by
    obtain ⟨_, xs, o⟩ := M5.out
    exact ⟨xs, (((((o.below D6.out (Nat.le_refl _)).below D7.out (Nat.le_refl _)).below D8.out (Nat.le_refl _)).below D9.out (Nat.le_refl _)).below D10.out (Nat.le_refl _)).below D11.out (Nat.le_refl _)⟩
  have HS : Hid (w1.heap.size ≤ w2.heap.size ∧ w2.heap.size ≤ w4.heap.size ∧ w4.heap.size ≤ w5.heap.size ∧ w5.heap.size ≤ w6.heap.size ∧ w6.heap.size ≤ w12.heap.size ∧ R < w1.heap.size ∧ w.heap.size ≤ w1.heap.size) := by
    have s1 := D1.out.size
    have s2 := D2.out.size
    have s3 := D3.out.size
    have s4 := D4.out.size
    have s5 := D5.out.size
    have s6 := D6.out.size
    have s7 := D7.out.size
    have s8 := D8.out.size
    have s9 := D9.out.size
    have s10 := D10.out.size
    have s11 := D11.out.size
    exact ⟨by omega, by omega, by omega, by omega, by omega, R1.out.lt, C1.out.size⟩
  go_wp2_with fail
  go_at_call 33
  refine (unhide KA).mono ?_
  rintro e w13 ⟨rfl, bi⟩
  have KB := hide (apart_three w1 w2 w4 w5 w6 w13 ap aq a6 lp lq ll cp cq c6 M4.out M5.out ⟨hll, _, O2.out⟩ (by have := HS.out; have := bi.1.size; omega) (by obtain ⟨xs, o⟩ := Lp.out; exact ⟨xs, o.stay bi.2⟩) (by obtain ⟨xs, o⟩ := Lq.out; exact ⟨xs, o.stay bi.2⟩) ⟨_, O12.out.stay bi.2⟩ w13.heap.size rfl)
  have R13 : Hid (Block w13 R (rm zs 4)) := R12.out.below (bi.1) (by have := HS.out; omega)
  have C13 : Hid (Below w.heap.size w w13) := C12.out.trans (bi.1.mono (by have := HS.out; omega))
  clear KA bi
  go_wp2_with fail
  go_at_call 34
  refine (unhide KB).mono ?_
  rintro e w14 ⟨rfl, d13⟩
  have R14 : Hid (Block w14 R (rm zs 4)) := R13.out.below d13 (by have := HS.out; omega)
  have C14 : Hid (Below w.heap.size w w14) := C13.out.trans (d13.mono (by have := HS.out; omega))
  clear KB d13
  go_wp2_with fail
  go_at_call 32
  refine (kept_any R a len cap zs w14 hl R14.out (HR.out.has.later C14.out)).mono ?_
  rintro e w15 ⟨rfl, d14⟩
  have C15 : Hid (Below w.heap.size w w15) := bchain C14.out d14 (Nat.le_refl _)
  clear d14
  go_wp2_with fail
  go_ret
  exact ⟨rfl, C15.out⟩

end Go.Proofs.YtmdkcoenjadieaaDoor

