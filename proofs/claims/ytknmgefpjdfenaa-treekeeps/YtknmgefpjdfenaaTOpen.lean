/- slices.Index over the handles, Open, file, Close. -/
import Derived.Test.YtknmgefpjdfenaaTWakes
namespace Go.Proofs.Ytknmgefpjdfenaa
open Go.RowKit Go.Shelf Go.Maps
set_option linter.unusedVariables false
set_option maxRecDepth 100000

/-- The least handle that is not open. -/
structure FreeH (s : Tr) (f : Nat) : Prop where
  lt : f < 16
  free : s.opn f = none
  full : ∀ i, i < f → ∃ b, s.opn i = some b

set_option maxHeartbeats 1000000 in
theorem index_free {w : World} {S : Nat → Prop} {g f : Nat} {s : Tr} (h : TM w S g s) (hf : FreeH s f) :
    Calls Try.prog 23 #[.slice (some ⟨g, 3, none⟩) 16 16, .pointer none] w fun e w' => e = .returned (.int .i64 (f : Int)) ∧ w' = w := by
  have HC : Hid (∀ i, i < 16 → w.cell? ⟨g, 3 + i, none⟩ = some (ptrO (s.opn i))) := fun i hi => h.open_cell hi
  have HF := hide hf
  have hlt := hf.lt
  clear h hf
  go_enter Try.func23, Try.ntmps23
  go_wp2_with fail
  go_loopw [8] (fun iv wr => ∃ k : Nat, k ≤ f ∧ iv = .int .i64 (k : Int) ∧ wr = w) (fun iv _ => 16 - (intOf iv).toNat)
  case atStart => exact ⟨0, Nat.zero_le _, rfl, rfl⟩
  case round =>
    obtain ⟨k, hk, rfl, rfl⟩ := hrel
    have c := HC.out k (by omega)
    have l1 : (k : Int) < 16 := by omega
    have l0 : (0 : Int) ≤ (k : Int) := by omega
    by_cases hlt : k < f
    · obtain ⟨b, hb⟩ := HF.out.full k hlt
      rw [hb] at c
      simp only [ptrO, Option.map_some] at c
      have hn : ∀ w : World, (binOp .eql 53 (.pointer none) (.pointer (some ⟨b, 0, none⟩))).run Try.prog w = .ok (.bool false) w := fun w => by kernel_rfl
      clear HC HF hb
      go_wp2_with fail
      go_roundw
      case rel => exact ⟨k + 1, by omega, by go_num, trivial⟩
      case measure => simp [intOf]; omega
    · obtain rfl : k = f := by omega
      rw [HF.out.free] at c
      simp only [ptrO, Option.map_none] at c
      clear HC HF
      go_wp2_with fail
      go_ret
      exact ⟨rfl, rfl⟩

def Tr.opened (s : Tr) (f : Nat) (o : Option Nat) : Tr := { s with opn := fun i => if i = f then o else s.opn i }

theorem TM.opened {u : World} {S : Nat → Prop} {g : Nat} {s : Tr} (h : TM u S g s) {f : Nat} (hf : f < 16) (o : Option Nat) : TM (u.setCell ⟨g, 3 + f, none⟩ (ptrO o)) S g (s.opened f o) := by
  refine h.setT (3 + f) _ (fun j hj => ?_) rfl (h.row.kept (fun x ex => ?_)) h.sr
  · unfold tcell Tr.opened
    by_cases h0 : j = 0
    · subst h0; rw [if_pos rfl, if_neg (by omega), if_pos rfl]
    · by_cases h1 : j = 1
      · subst h1; rw [if_neg h0, if_pos rfl, if_neg (by omega), if_neg h0, if_pos rfl]
      · by_cases h2 : j = 2
        · subst h2; rw [if_neg h0, if_neg h1, if_pos rfl, if_neg (by omega), if_neg h0, if_neg h1, if_pos rfl]
        · rw [if_neg h0, if_neg h1, if_neg h2, if_neg h0, if_neg h1, if_neg h2]
          by_cases h3 : j = 3 + f
          · subst h3
            rw [if_pos rfl]
            show ptrO (if 3 + f - 3 = f then o else s.opn (3 + f - 3)) = ptrO o
            rw [if_pos (by omega)]
          · rw [if_neg h3]
            show ptrO (if j - 3 = f then o else s.opn (j - 3)) = ptrO (s.opn (j - 3))
            rw [if_neg (by omega)]
  · obtain ⟨_, _, cur, hcu⟩ := h.row.lt ex
    exact Below.heap_setCell _ _ _ _ (row_neT h.str hcu (by decide))

theorem Ok.opened {s : Tr} {r : Nat} (h : Ok s r) (f : Nat) (o : Option Nat) : Ok (s.opened f o) r := ⟨h.root, h.dir, h.kind, h.live⟩

set_option maxHeartbeats 2000000 in
theorem open_ok {w : World} {S : Nat → Prop} {g r b f : Nat} {s : Tr} {t : Th} (h : TM w S g s) (hk : Ok s r) {p : List UInt8} {ns : List (List UInt8)} (hp : spl p = some ns) (hg : go s ns r = (0, some b)) (ht : s.T b = some t) (h1 : t.k = 1) (hf : FreeH s f) :
    Calls Try.prog 7 #[.pointer (some ⟨g, 0, none⟩), .string (St p)] w fun e w' => e = .returned (.tuple #[.int .i64 (f : Int), .int .i64 0]) ∧ TM w' S g (s.opened f (some b)) ∧ Kp S w w' := by
  have K := hide (refuses_one (p := p) h hk.row_ne (by have := spl_len hp; omega) (Below.refl _ _))
  rw [splE_of hp] at K
  have KF : Hid (∀ u, TM u S g s → Calls Try.prog 22 #[.pointer (some ⟨g, 0, none⟩), .string (St p)] u fun e w' => e = .returned (.tuple #[.pointer (some ⟨b, 0, none⟩), .int .i64 0]) ∧ Below u.heap.size u w') := fun u hu => by
    have := find_any hu hk hp
    rw [hg] at this
    exact this
  have KI : Hid (∀ u, TM u S g s → Calls Try.prog 23 #[.slice (some ⟨g, 3, none⟩) 16 16, .pointer none] u fun e w' => e = .returned (.int .i64 (f : Int)) ∧ w' = u) := fun u hu => index_free hu hf
  have HT := hide h
  have HX := hide (And.intro ht h1)
  have hlt := hf.lt
  clear h hk hp hg ht h1 hf
  generalize St p = sp at *
  go_enter Try.func7, Try.ntmps7
  go_wp2_with fail
  refine (unhide K).mono ?_
  rintro e w1 ⟨rfl, hb⟩
  have HT := hide (HT.out.below hb)
  have HB := hide hb
  have KF := hide (KF.out w1 HT.out)
  clear K hb
  go_wp2_with fail
  refine (unhide KF).mono ?_
  rintro e w2 ⟨rfl, hb⟩
  have HT := hide (HT.out.below hb)
  have HB := hide (HB.out.trans (hb.mono HB.out.size))
  have t0 := (HT.out.thing_cells HX.out.1).1
  rw [HX.out.2] at t0
  have KI := hide (KI.out w2 HT.out)
  clear KF hb
  go_wp2_with fail
  refine (unhide KI).mono ?_
  rintro e w3 ⟨rfl, rfl⟩
  clear KI
  have c3 := HT.out.open_cell hlt
  have cf := HT.out.tree_cells.2.2.2
  have l0 : (0 : Int) ≤ (f : Int) := by omega
  have l1 : (f : Int) < 16 := by omega
  have d0 : decide ((f : Int) < 0) = false := by simp
  have HR : Hid (TM (w3.setCell ⟨g, 3 + f, none⟩ (.pointer (some ⟨b, 0, none⟩))) S g (s.opened f (some b)) ∧ Kp S w (w3.setCell ⟨g, 3 + f, none⟩ (.pointer (some ⟨b, 0, none⟩)))) := ⟨HT.out.opened hlt (some b), (Kp.of HB.out).setCell (p := ⟨g, 3 + f, none⟩) (.inl HT.out.sg) _⟩
  clear HT HB HX hlt
  go_wp2_with fail
  go_ret2
  exact ⟨rfl, HR.out⟩

end Go.Proofs.Ytknmgefpjdfenaa
