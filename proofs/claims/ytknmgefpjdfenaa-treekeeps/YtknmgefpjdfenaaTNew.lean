/- New. -/
import Derived.Test.YtknmgefpjdfenaaTStat
namespace Go.Proofs.Ytknmgefpjdfenaa
open Go.RowKit Go.Shelf Go.Maps
set_option linter.unusedVariables false
set_option maxRecDepth 100000

theorem new_bad {n : Int} (hn : n < 1 ∨ 524288 < n) (w : World) : Calls Try.prog 5 #[.int .i64 n] w fun e w' => e = .returned (.tuple #[.pointer none, .int .i64 1]) ∧ w' = w := by
  by_cases h1 : n < 1
  · clear hn
    go_enter Try.func5, Try.ntmps5
    go_wp2_with fail
    go_ret2
    exact ⟨rfl, rfl⟩
  · have h2 : 524288 < n := hn.resolve_left h1
    clear hn
    go_enter Try.func5, Try.ntmps5
    go_wp2_with fail
    go_ret2
    exact ⟨rfl, rfl⟩

/-- The root. -/
def rootT (mp : Nat) : Th := { k := 2, n := 1, l := 1, d := [], da := none, dc := 0, mp := mp, ns := [] }

/-- A tree that has the root alone. -/
def Tr0 (n : Int) (b mp : Nat) (ra : Option Addr) (rc : Nat) : Tr :=
  { most := n, row := [none, some b], ra := ra, rc := rc, least := 1, opn := fun _ => none, T := fun k => if k = b then some (rootT mp) else none }

/-- Before the root comes. -/
def TrN (n : Int) : Tr := { most := n, row := [], ra := none, rc := 0, least := 1, opn := fun _ => none, T := fun _ => none }

def tcs (n : Int) : Array Value := #[.int .i64 n, .slice none 0 0, .int .i64 1, .pointer none, .pointer none, .pointer none, .pointer none, .pointer none, .pointer none, .pointer none, .pointer none, .pointer none, .pointer none, .pointer none, .pointer none, .pointer none, .pointer none, .pointer none, .pointer none]

theorem tm_new (n : Int) (w : World) : TM (w.alloc (.cells (tcs n) 56)) (fun k => k = w.heap.size) w.heap.size (TrN n) := by
  refine ⟨World.rowIs_alloc w (tcs n) _ _ (fun i hi => ?_), OwnP.nil _ _, fun b t e => (by cases e), fun b t e => (by cases e), fun b t e => (by cases e), fun b b' t t' e => (by cases e), fun b b' t t' x e => (by cases e), rfl, fun x e => (by cases e), fun b t e => (by cases e), fun b t e => (by cases e), fun b t x e => (by cases e), fun k hk => by rw [hk]; simp⟩
  have hi' : i < 19 := hi
  clear hi
  match i, hi' with
  | 0, _ => rfl
  | 1, _ => rfl
  | 2, _ => rfl
  | 3, _ => rfl
  | 4, _ => rfl
  | 5, _ => rfl
  | 6, _ => rfl
  | 7, _ => rfl
  | 8, _ => rfl
  | 9, _ => rfl
  | 10, _ => rfl
  | 11, _ => rfl
  | 12, _ => rfl
  | 13, _ => rfl
  | 14, _ => rfl
  | 15, _ => rfl
  | 16, _ => rfl
  | 17, _ => rfl
  | 18, _ => rfl
  | k + 19, h => exact absurd h (by omega)

theorem Tr0_eq (n : Int) (b mp : Nat) (ra : Option Addr) (rc : Nat) : (({ TrN n with row := (pad (TrN n).row 1).set 1 (some b), ra := ra, rc := rc, least := 1 } : Tr).upd b { newT 2 1 mp with l := 1 }) = Tr0 n b mp ra rc := rfl

theorem ok_root (n : Int) (b mp : Nat) (ra : Option Addr) (rc : Nat) : Ok (Tr0 n b mp ra rc) b := by
  have hT : ∀ c t, (Tr0 n b mp ra rc).T c = some t → c = b ∧ t = rootT mp := fun c t e => by
    unfold Tr0 at e
    simp only at e
    by_cases h : c = b
    · rw [if_pos h] at e; cases e; exact ⟨h, rfl⟩
    · rw [if_neg h] at e; cases e
  refine ⟨rfl, ⟨rootT mp, if_pos rfl, rfl⟩, fun c t e => ?_, fun c t x d e hx => ?_⟩
  · rw [(hT c t e).2]; exact .inr rfl
  · rw [(hT c t e).2] at hx; cases hx

set_option maxHeartbeats 4000000 in
theorem new_ok {n : Int} (h1 : 1 ≤ n) (h2 : n ≤ 524288) (w : World) : Calls Try.prog 5 #[.int .i64 n] w fun e w' => ∃ g b mp ra rc S, e = .returned (.tuple #[.pointer (some ⟨g, 0, none⟩), .int .i64 0]) ∧ TM w' S g (Tr0 n b mp ra rc) ∧ (∀ k, S k → w.heap.size ≤ k) ∧ Below w.heap.size w w' := by
  have hb0 : Below w.heap.size w (w.alloc (.cells (tcs n) 56)) := (Below.refl _ w).alloc (Nat.le_refl _) _
  have ht := tm_new n w
  have K : Hid (Calls Try.prog 18 #[.pointer (some ⟨w.heap.size, 0, none⟩), .int .i64 2] (w.alloc (.cells (tcs n) 56)) fun e w' => BornP (w.alloc (.cells (tcs n) 56)) (fun k => k = w.heap.size) w.heap.size 1 (TrN n) 2 e w') :=
    born_any ht ⟨Nat.le_refl _, fun i h1 h2 => by have h1' : 1 ≤ i := h1; omega, .inl rfl⟩ (.inr rfl) (by omega) (by show 0 ≤ 1000000; omega)
  have HB := hide hb0
  have d1 : decide (n < 1) = false := by simp; omega
  have d2 : decide (n > 524288) = false := by simp; omega
  clear hb0 ht h1 h2
  go_enter Try.func5, Try.ntmps5
  go_upto_region 4 with fail
  change Code.wp _ _ _ _ (w.alloc (.cells (tcs n) 56))
  generalize w.alloc (.cells (tcs n) 56) = w0 at *
  go_wp2_with fail
  refine (unhide K).mono ?_
  rintro e w1 ⟨b, mp, ra, rc, rfl, hb1, hb2, htm, hkp⟩
  have hb0 : (({ TrN n with row := (pad (TrN n).row 1).set 1 (some b), ra := ra, rc := rc, least := 1 } : Tr).upd b (newT 2 1 mp)).T b = some (newT 2 1 mp) := by rw [Tr.upd_T, if_pos rfl]
  have t2 : w1.cell? ⟨b, 2, none⟩ = some (.int .i64 0) := (htm.thing_cells hb0).2.2.1
  have tf := (htm.thing_cells hb0).2.2.2.2.2
  have h5 := htm.setH hb0 1
  rw [Tr.upd_upd] at h5
  have hsz := HB.out.size
  have HR : Hid (TM (w1.setCell ⟨b, 2, none⟩ (.int .i64 1)) (Up (fun k => k = w.heap.size) w0.heap.size w1.heap.size) w.heap.size (Tr0 n b mp ra rc) ∧ (∀ k, (Up (fun k => k = w.heap.size) w0.heap.size w1.heap.size) k → w.heap.size ≤ k) ∧ Below w.heap.size w (w1.setCell ⟨b, 2, none⟩ (.int .i64 1))) := by
    refine ⟨h5, fun k hk => ?_, ?_⟩
    · rcases hk with q | q
      · exact Nat.le_of_eq q.symm
      · omega
    · have hk1 : Below w.heap.size w0 w1 := hkp.below hsz (fun k hk => Nat.le_of_eq hk.symm)
      exact (HB.out.trans hk1).setCell (p := ⟨b, 2, none⟩) (by show w.heap.size ≤ b; omega) _
  clear K htm hkp h5 hb0 hb1 hb2 hsz HB
  go_wp2_with fail
  go_ret2
  exact ⟨w.heap.size, b, mp, ra, rc, _, rfl, HR.out⟩

end Go.Proofs.Ytknmgefpjdfenaa
