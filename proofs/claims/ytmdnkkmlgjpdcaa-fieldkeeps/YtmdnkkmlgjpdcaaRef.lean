/- Contracts of the document's answers: inside, Get, SameBytes. -/
import Derived.Test.YtmdnkkmlgjpdcaaPut
import Derived.Laws.BytesArg
namespace Go.Proofs.Ytmdnkkmlgjpdcaa
open Go.RowKit Go.Shelf
set_option linter.unusedVariables false

/-- A slice holds these bytes. -/
def Has (w : World) (a : Option Addr) (len : Nat) (zs : List Int) : Prop :=
  zs.length = len ∧ (0 < len → ∃ b off, a = some ⟨b, off, none⟩ ∧ ∀ j, j < len → w.cell? ⟨b, off + j, none⟩ = some (.int .u8 (zs[j]?.getD 0)))
theorem Row.has {n0 : Nat} {w : World} {a : Option Addr} {len cap : Nat} {zs : List Int} (h : Row n0 w a len cap zs) : Has w a len zs :=
  ⟨h.1, fun hp => by obtain ⟨b, off, e, _, hc⟩ := h.2.2.2.2 hp; exact ⟨b, off, e, hc⟩⟩
theorem Has.nil (w : World) : Has w none 0 [] := ⟨rfl, fun h => by omega⟩
theorem Block.has {w : World} {g : Nat} {zs : List Int} (h : Block w g zs) {len : Nat} (hl : zs.length = len) : Has w (some ⟨g, 0, none⟩) len zs :=
  ⟨hl, fun _ => ⟨g, 0, rfl, fun j hj => by rw [Nat.zero_add]; exact h.cell (by omega)⟩⟩

/-- string(b). -/
theorem Has.conv {w : World} {a : Option Addr} {len : Nat} {zs : List Int} (h : Has w a len zs) (cap : Nat) : (convert 22 9 (.slice a len cap)).run Try.prog w = .ok (.string (strOfNums zs)) w := by
  by_cases h0 : len = 0
  · subst h0
    have hz : zs = [] := List.eq_nil_of_length_eq_zero h.1
    subst hz
    rw [run_convert_bytes_string w 22 9 5 _ 0 cap Try.underlying22 Try.underlying5 Try.underlying9]
    cases a <;> simp [Conv.bytesToString, loadCells]
    all_goals rfl
  · obtain ⟨b, off, rfl, hc⟩ := h.2 (by omega)
    exact run_convert_bytes_arg w 22 5 Try.underlying22 Try.underlying5 b off len cap zs h.1 (fun i hi => by rw [hc i hi]; simp) 9 Try.underlying9

set_option maxHeartbeats 400000 in
theorem same_true (a1 a2 : Option Addr) (l c1 c2 : Nat) (zs : List Int) (w : World) (h1 : Has w a1 l zs) (h2 : Has w a2 l zs) :
    Calls Try.prog 13 #[.slice a1 l c1, .slice a2 l c2] w fun e w' => e = .returned (.bool true) ∧ w = w' := by
  have e1 := h1.conv c1
  have e2 := h2.conv c2
  clear h1 h2
  go_enter Try.func13, Try.ntmps13
  go_wp2
  go_ret
  exact ⟨by simp, rfl⟩

theorem partErr_cases (len : Nat) (at' n : Int) : (n < 0 ∧ partErr len at' n = 1) ∨ (0 ≤ n ∧ at' < 0 ∧ partErr len at' n = 2) ∨ (0 ≤ n ∧ 0 ≤ at' ∧ (len : Int) - at' < n ∧ partErr len at' n = 2) ∨ (0 ≤ n ∧ 0 ≤ at' ∧ n ≤ (len : Int) - at' ∧ partErr len at' n = 0) := by
  by_cases h1 : n < 0
  · exact .inl ⟨h1, partErr_arg h1⟩
  by_cases h2 : at' < 0
  · exact .inr (.inl ⟨by omega, h2, partErr_neg (by omega) h2⟩)
  by_cases h3 : (len : Int) - at' < n
  · exact .inr (.inr (.inl ⟨by omega, by omega, h3, partErr_far (by omega) (by omega) h3⟩))
  · exact .inr (.inr (.inr ⟨by omega, by omega, by omega, partErr_ok (by omega) (by omega) (by omega)⟩))

theorem ret_bool {a b : Bool} (h : a = b) : Ending.returned (.bool a) = .returned (.bool b) := by rw [h]

set_option maxHeartbeats 1000000 in
theorem inside_any (a : Option Addr) (len cap : Nat) (at' n : Int) (w : World) (hl : len ≤ 140737488351232) (ha : at' ≤ 9223372036854775807) :
    Calls Try.prog 25 #[.slice a len cap, .int .i64 at', .int .i64 n] w fun e w' => e = .returned (.bool (partErr len at' n == 0)) ∧ w = w' := by
  by_cases hA : at' < 0
  · have hp : (partErr len at' n == 0) = false := by rcases partErr_cases len at' n with h | h | h | h <;> simp <;> omega
    have d1 : decide (0 ≤ at') = false := by simp; omega
    rw [hp]
    clear hp
    go_enter Try.func25, Try.ntmps25
    go_wp2
    go_ret
    exact ⟨rfl, rfl⟩
  have d1 : decide (0 ≤ at') = true := by simp; omega
  by_cases hN : n < 0
  · have hp : (partErr len at' n == 0) = false := by rcases partErr_cases len at' n with h | h | h | h <;> simp <;> omega
    have d2 : decide (0 ≤ n) = false := by simp; omega
    rw [hp]
    clear hp
    go_enter Try.func25, Try.ntmps25
    go_wp2
    go_ret
    exact ⟨rfl, rfl⟩
  have d2 : decide (0 ≤ n) = true := by simp; omega
  by_cases hL : (len : Int) < at'
  · have hp : (partErr len at' n == 0) = false := by rcases partErr_cases len at' n with h | h | h | h <;> simp <;> omega
    have d3 : decide (at' ≤ (len : Int)) = false := by simp; omega
    rw [hp]
    clear hp
    go_enter Try.func25, Try.ntmps25
    go_wp2
    go_ret
    exact ⟨rfl, rfl⟩
  have d3 : decide (at' ≤ (len : Int)) = true := by simp; omega
  by_cases hF : (len : Int) - at' < n
  · have hp : (partErr len at' n == 0) = false := by rcases partErr_cases len at' n with h | h | h | h <;> simp <;> omega
    have d4 : decide (n ≤ (len : Int) - at') = false := by simp; omega
    rw [hp]
    clear hp
    go_enter Try.func25, Try.ntmps25
    go_wp2
    go_ret
    exact ⟨rfl, rfl⟩
  · have hp : (partErr len at' n == 0) = true := by rcases partErr_cases len at' n with h | h | h | h <;> simp <;> omega
    have d4 : decide (n ≤ (len : Int) - at') = true := by simp; omega
    rw [hp]
    clear hp
    go_enter Try.func25, Try.ntmps25
    go_wp2
    go_ret
    exact ⟨rfl, rfl⟩

end Go.Proofs.Ytmdnkkmlgjpdcaa
