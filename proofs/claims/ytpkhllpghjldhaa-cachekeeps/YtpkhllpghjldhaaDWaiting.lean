/- The contract of Waiting. -/
import Derived.Test.YtpkhllpghjldhaaDCrash
import Derived.Test.YtpkhllpghjldhaaGApartI
namespace Go.Proofs.Ytpkhllpghjldhaa
open Go.RowKit Go.Shelf
set_option linter.unusedVariables false

/-- What waits of the first k blocks. -/
def Dev.waitTo (D : Dev) : Nat → List Int
  | 0 => []
  | k + 1 => D.waitTo k ++ (if D.Y k = [] then [] else [(k : Int), ((D.Y k).length : Int)])

def Dev.waitL (D : Dev) : List Int := D.waitTo D.n

theorem waitTo_len (D : Dev) : ∀ k, (D.waitTo k).length ≤ 2 * k
  | 0 => Nat.le_refl _
  | k + 1 => by
    have := waitTo_len D k
    simp only [Dev.waitTo, List.length_append]
    split <;> simp <;> omega

/-- A row of numbers, grown since B. -/
def Gr (B : Nat) (w : World) (v : Value) (L : List Int) : Prop := w.ownsRow B 3 1 v L.length (L.map (Value.int .i64))

theorem Gr.own {B : Nat} {w : World} {v : Value} {L : List Int} (h : Gr B w v L) : ∃ a c, v = .slice a L.length c ∧ IOwn B w a L.length c L := by
  obtain ⟨h1, h2⟩ := h
  rcases h2 with ⟨rfl, h0⟩ | ⟨g, cap, cur, rfl, hg, hh, h2, h3, hc, ht⟩
  · exact ⟨none, 0, by rw [h0], rfl, by omega, by unfold maxLen; omega, .inl ⟨rfl, h0, rfl⟩⟩
  · exact ⟨_, cap, rfl, rfl, h2, h3, .inr ⟨g, cur, rfl, hg, hh, by simpa using hc, by simpa using ht⟩⟩

theorem Gr.shape {B : Nat} {w : World} {v : Value} {L : List Int} (h : Gr B w v L) : ∃ a c, v = .slice a L.length c := by
  obtain ⟨a, c, e, _⟩ := h.own
  exact ⟨a, c, e⟩

theorem Gr.later {B : Nat} {w w' : World} {v : Value} {L : List Int} (h : Gr B w v L) (hb : Below w.heap.size w w') : Gr B w' v L := by
  refine ownsRow_block h (fun g cur hg hh => hb.block g (Array.getElem?_eq_some_iff.1 hh).1)

theorem Gr.two {B : Nat} {u : World} {v : Value} {L : List Int} (h : Gr B u v L) (hB : B ≤ u.heap.size) (hl : L.length ≤ 10000) (x y : Int) :
    ∃ v' w', (∀ ty, (Builtin.append_ #[22, 22] ty #[v, .slice (some ⟨u.heap.size, 0, none⟩) 2 2]).run Try.prog (u.alloc (.cells #[.int .i64 x, .int .i64 y] 3)) = .ok v' w') ∧ Gr B w' v' (L ++ [x, y]) ∧ Below B u w' := by
  obtain ⟨i0, hi, hz0, hz1, hz2⟩ := info_parts info3
  have hb : Below u.heap.size u (u.alloc (.cells #[.int .i64 x, .int .i64 y] 3)) := (Below.refl _ _).alloc (Nat.le_refl _) _
  have hr := World.rowIs_alloc u #[.int .i64 x, .int .i64 y] 3 (fun j => if j = 0 then .int .i64 x else .int .i64 y) (fun j hj => by
    have : j = 0 ∨ j = 1 := by simp at hj; omega
    rcases this with rfl | rfl <;> rfl)
  obtain ⟨v', w', hrun, ho, hg, _⟩ := run_append_own (P := Try.prog) (u.alloc (.cells #[.int .i64 x, .int .i64 y] 3)) B 22 0 3 i0 (.int .i64 0) 1 8 Try.underlying22 hi hz0 hz1 hz2 rfl (by decide) v L.length _ (h.later hb) ⟨u.heap.size, 0, none⟩ 2 2 [.int .i64 x, .int .i64 y] rfl (by
      intro j z hj
      rw [World.add_zero_spot, Nat.zero_add]
      have hj2 : j = 0 ∨ j = 1 := by have := (List.getElem?_eq_some_iff.1 hj).1; simp at this; omega
      rw [hr.cell (i := j) (by simp; omega)]
      rcases hj2 with rfl | rfl <;> simpa using hj) (by intro z hz; simp at hz; rcases hz with rfl | rfl <;> rfl) (by unfold maxLen; omega) (by omega) (Nat.le_trans hB hb.size)
  refine ⟨v', w', fun ty => hrun, ?_, ?_⟩
  · unfold Gr
    rw [List.map_append, List.length_append]
    exact ho
  · exact (hb.mono hB).grown hg (Nat.le_trans hB hb.size) (fun k e => ((h.later hb).lt k e).1)

end Go.Proofs.Ytpkhllpghjldhaa
