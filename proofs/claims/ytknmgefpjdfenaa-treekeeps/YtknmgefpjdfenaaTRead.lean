/- file and Read. -/
import Derived.Test.YtknmgefpjdfenaaTOpen
import Derived.Test.YtknmgefpjdfenaaGClone
namespace Go.Proofs.Ytknmgefpjdfenaa
open Go.RowKit Go.Shelf Go.Maps
set_option linter.unusedVariables false
set_option maxRecDepth 100000

theorem bclone_nil (cap : Nat) (w : World) : Calls Try.prog 26 #[.slice none 0 cap] w fun e w' => e = .returned (.slice none 0 0) ∧ w' = w := by
  have q : ∀ (w : World) (a : Option Addr) (n c n' c' : Nat), (binOp .eql 22 (.slice a n c) (.slice none n' c')).run Try.prog w = .ok (.bool a.isNone) w := fun w a n c n' c' => Lib.run_eql_slice_nil w _ _ a n c n' c' Try.underlying22
  go_enter Try.func26, Try.ntmps26
  go_wp2_with fail
  go_ret
  exact ⟨rfl, rfl⟩

/-- bytes.Clone, of nil too. -/
theorem bclone_all (a : Option Addr) (len cap : Nat) (zs : List Int) (w : World) (hr : Has w a len zs) (hn : len ≤ 140737488351232) :
    Calls Try.prog 26 #[.slice a len cap] w fun e w' => ∃ a' c', e = .returned (.slice a' len c') ∧ Own w.heap.size w' a' len c' zs ∧ Below w.heap.size w w' := by
  cases a with
  | some x => exact bclone_any x len cap zs w hr hn
  | none =>
    have h0 : len = 0 := by
      by_cases h : 0 < len
      · obtain ⟨b, off, e, _⟩ := hr.2 h
        cases e
      · omega
    subst h0
    obtain rfl : zs = [] := List.eq_nil_of_length_eq_zero hr.1
    refine (bclone_nil cap w).mono ?_
    rintro e w' ⟨rfl, rfl⟩
    exact ⟨none, 0, rfl, Own.nil _ _, Below.refl _ _⟩

theorem file_ok {w : World} {S : Nat → Prop} {g f b : Nat} {s : Tr} (h : TM w S g s) (hf : f < 16) (ho : s.opn f = some b) (hr : s.row ≠ []) :
    Calls Try.prog 24 #[.pointer (some ⟨g, 0, none⟩), .int .i64 (f : Int)] w fun e w' => e = .returned (.tuple #[.pointer (some ⟨b, 0, none⟩), .int .i64 0]) ∧ w' = w := by
  have K := hide (isnone_no h hr)
  have c := h.open_cell hf
  rw [ho] at c
  simp only [ptrO, Option.map_some] at c
  have l0 : (0 : Int) ≤ (f : Int) := by omega
  have l1 : (f : Int) < 16 := by omega
  clear h ho hr hf
  go_enter Try.func24, Try.ntmps24
  go_wp2_with fail
  refine (unhide K).mono ?_
  rintro e w1 ⟨rfl, rfl⟩
  clear K
  go_wp2_with fail
  go_ret2
  exact ⟨rfl, rfl⟩

set_option maxHeartbeats 4000000 in
theorem read_ok {w : World} {S : Nat → Prop} {g f b : Nat} {s : Tr} {t : Th} (h : TM w S g s) (hf : f < 16) (ho : s.opn f = some b) (hr : s.row ≠ []) (ht : s.T b = some t) (hd : t.d.length ≤ 1000000) (at0 n : Nat) (ha : at0 ≤ 9223372036854775807) (hn : n ≤ 4096) :
    Calls Try.prog 11 #[.pointer (some ⟨g, 0, none⟩), .int .i64 (f : Int), .int .i64 (at0 : Int), .int .i64 (n : Int)] w fun e w' => ∃ a c, e = .returned (.tuple #[.slice a (min n (t.d.length - min at0 t.d.length)) c, .int .i64 0]) ∧
      Own w.heap.size w' a (min n (t.d.length - min at0 t.d.length)) c ((t.d.drop (min at0 t.d.length)).take (min n (t.d.length - min at0 t.d.length))) ∧ Below w.heap.size w w' := by
  have K := hide (file_ok h hf ho hr)
  have c3 := (h.thing_cells ht).2.2.2.1
  have hO := h.dat b t ht
  obtain ⟨a1, z1, R1, hz1, hH1⟩ := cut_l hO.has (l := min at0 t.d.length) hO.2.1 (by omega)
  obtain ⟨a2, z2, R2, hz2, hH2⟩ := cut_h hH1 (k := min n (t.d.length - min at0 t.d.length)) hz1 (by omega)
  have KC : Hid (∀ q, Calls Try.prog 26 #[.slice a2 (min n (t.d.length - min at0 t.d.length)) z2] (w.drewN q) fun e w' => ∃ a c, e = .returned (.slice a (min n (t.d.length - min at0 t.d.length)) c) ∧ Own w.heap.size w' a (min n (t.d.length - min at0 t.d.length)) c ((t.d.drop (min at0 t.d.length)).take (min n (t.d.length - min at0 t.d.length))) ∧ Below w.heap.size w w') := fun q => by
    refine (bclone_all a2 _ z2 _ (w.drewN q) hH2 (by omega)).mono ?_
    rintro e w' ⟨a, c, rfl, o, bb⟩
    exact ⟨a, c, rfl, o, bb.os, bb.tape, bb.output, bb.size, bb.block⟩
  have m1 : min (at0 : Int) (t.d.length : Int) = ((min at0 t.d.length : Nat) : Int) := by omega
  have m2 : min (n : Int) ((t.d.length - min at0 t.d.length : Nat) : Int) = ((min n (t.d.length - min at0 t.d.length) : Nat) : Int) := by omega
  have d1 : decide ((n : Int) > 4096) = false := by simp; omega
  clear h hf ho hr ht hO hH1 hH2 hz1 hz2
  generalize min n (t.d.length - min at0 t.d.length) = k2 at *
  generalize t.d.length - min at0 t.d.length = l2 at *
  generalize min at0 t.d.length = k1 at *
  generalize t.d.length = l1 at *
  go_enter Try.func11, Try.ntmps11
  go_wp2_with fail
  refine (unhide K).mono ?_
  rintro e w1 ⟨rfl, rfl⟩
  clear K
  go_wp2_with fail
  go_region
  go_wp2_with fail
  refine (unhide KC 1).mono ?_
  rintro e w2 ⟨a, c, rfl, ho, hb⟩
  have HR := hide (And.intro ho hb)
  clear KC ho hb
  go_wp2_with fail
  go_ret2
  exact ⟨a, c, rfl, HR.out⟩

end Go.Proofs.Ytknmgefpjdfenaa
