/- A scope with two labels: what holds at every jump to each, and measures that every pass lowers. Of no function of a program. -/
import Derived.Scope
namespace Go.Proofs.YtdfanhjnkjdngaaGreatDoor
open Go
set_option linter.unusedVariables false

def jump2 (l0 : Nat) (J0 : Act → World → Prop) (l1 : Nat) (J1 : Act → World → Prop) (Q : Exit → Act → World → Prop) : Exit → Act → World → Prop
  | .goto l, a, w => (l = l0 ∧ J0 a w) ∨ (l = l1 ∧ J1 a w)
  | e, a, w => Q e a w

theorem jump2_ret {a : Act} {w : World} {Q : Exit → Act → World → Prop} {l0 l1 : Nat} {J0 J1 : Act → World → Prop} : jump2 l0 J0 l1 J1 Q .ret a w = Q .ret a w := rfl

theorem jump2_mono {Q : Exit → Act → World → Prop} {l0 l1 : Nat} {J0 J1 J0' J1' : Act → World → Prop} (h0 : ∀ a w, J0 a w → J0' a w) (h1 : ∀ a w, J1 a w → J1' a w) : ∀ e a w, jump2 l0 J0 l1 J1 Q e a w → jump2 l0 J0' l1 J1' Q e a w := by
  intro e a w h
  cases e with
  | goto l =>
    rcases h with ⟨e, h⟩ | ⟨e, h⟩
    · exact .inl ⟨e, h0 _ _ h⟩
    · exact .inr ⟨e, h1 _ _ h⟩
  | normal => exact h
  | exit id => exact h
  | ret => exact h
  | panic ch => exact h
  | outgrown => exact h

theorem wp_scope_two {P : Program} {a : Act} {w : World} {Q : Exit → Act → World → Prop} {c r0 r1 : Code} (l0 l1 : Nat) (J0 J1 : Act → World → Prop) (μ0 μ1 : Act → World → Nat)
    (hf0 : findLabel c l0 = some (.seq .skip r0)) (hf1 : findLabel c l1 = some (.seq .skip r1))
    (pass1 : ∀ a w, J1 a w → r1.wp P (jump2 l0 (fun a' w' => J0 a' w' ∧ μ0 a' w' < μ1 a w) l1 (fun a' w' => J1 a' w' ∧ μ1 a' w' < μ1 a w) Q) a w)
    (pass0 : (∀ N a w, J1 a w → μ1 a w ≤ N → r1.wp P (jump2 l0 (fun a' w' => J0 a' w' ∧ μ0 a' w' < N) l1 (fun a' w' => J1 a' w' ∧ μ1 a' w' < N) Q) a w) →
      ∀ a w, J0 a w → r0.wp P (jump2 l0 (fun a' w' => J0 a' w' ∧ μ0 a' w' < μ0 a w) l1 (fun a' w' => J1 a' w' ∧ μ1 a' w' < μ0 a w) Q) a w)
    (first : (∀ a w, J0 a w → r0.wp P (jump2 l0 J0 l1 J1 Q) a w) → c.wp P (jump2 l0 J0 l1 J1 Q) a w) : (Code.scope c).wp P Q a w := by
  have p1 : ∀ N a w, J1 a w → μ1 a w ≤ N → r1.wp P (jump2 l0 (fun a' w' => J0 a' w' ∧ μ0 a' w' < N) l1 (fun a' w' => J1 a' w' ∧ μ1 a' w' < N) Q) a w :=
    fun N a w h hN => wp_mono (pass1 a w h) (jump2_mono (fun _ _ h => ⟨h.1, by omega⟩) (fun _ _ h => ⟨h.1, by omega⟩))
  have p0 := pass0 p1
  intro b k cs
  have hg0 : gotoIn l0 (.inScope c :: k) = some (.code (.seq .skip r0) :: .inScope c :: k) := by simp [gotoIn, hf0]
  have hg1 : gotoIn l1 (.inScope c :: k) = some (.code (.seq .skip r1) :: .inScope c :: k) := by simp [gotoIn, hf1]
  have key : ∀ n a w, (J0 a w → μ0 a w = n → ∃ e a' w', Q e a' w' ∧ Arrives P (lone (b.at a (.code (.seq .skip r0) :: .inScope c :: k)) cs w) b k cs e a' w') ∧
      (J1 a w → μ1 a w = n → ∃ e a' w', Q e a' w' ∧ Arrives P (lone (b.at a (.code (.seq .skip r1) :: .inScope c :: k)) cs w) b k cs e a' w') := by
    intro n
    induction n using Nat.strongRecOn with
    | _ n ih =>
      have go : ∀ a w (r : Code), r.wp P (jump2 l0 (fun a' w' => J0 a' w' ∧ μ0 a' w' < n) l1 (fun a' w' => J1 a' w' ∧ μ1 a' w' < n) Q) a w →
          ∃ e a' w', Q e a' w' ∧ Arrives P (lone (b.at a (.code (.seq .skip r) :: .inScope c :: k)) cs w) b k cs e a' w' := by
        intro a w r hr
        obtain ⟨e, a₁, w₁, hq, harr⟩ := (wp_seq (x := .skip) (wp_skip hr) : (Code.seq .skip r).wp P _ a w) b (.inScope c :: k) cs
        cases e with
        | normal => exact ⟨.normal, a₁, w₁, hq, Steps.trans harr (.one step_inScope)⟩
        | exit id => exact ⟨.exit id, a₁, w₁, hq, fun k' hk => harr k' (by simp [exitTo, hk])⟩
        | goto l' =>
          rcases hq with ⟨rfl, hJ, hlt⟩ | ⟨rfl, hJ, hlt⟩
          · obtain ⟨e₂, a₂, w₂, hq₂, harr₂⟩ := (ih _ hlt a₁ w₁).1 hJ rfl
            exact ⟨e₂, a₂, w₂, hq₂, .of_steps (harr _ hg0) harr₂⟩
          · obtain ⟨e₂, a₂, w₂, hq₂, harr₂⟩ := (ih _ hlt a₁ w₁).2 hJ rfl
            exact ⟨e₂, a₂, w₂, hq₂, .of_steps (harr _ hg1) harr₂⟩
        | ret => exact ⟨_, a₁, w₁, hq, harr⟩
        | panic ch => exact ⟨_, a₁, w₁, hq, harr⟩
        | outgrown => exact ⟨_, a₁, w₁, hq, harr⟩
      intro a w
      refine ⟨fun hJ hn => go a w r0 ?_, fun hJ hn => go a w r1 ?_⟩
      · subst hn; exact p0 a w hJ
      · subst hn; exact pass1 a w hJ
  obtain ⟨e, a₁, w₁, hq, harr⟩ := first (fun a w h => wp_mono (p0 a w h) (jump2_mono (fun _ _ h => h.1) (fun _ _ h => h.1))) b (.inScope c :: k) cs
  cases e with
  | normal => exact ⟨.normal, a₁, w₁, hq, .head step_scope (Steps.trans harr (.one step_inScope))⟩
  | exit id => exact ⟨.exit id, a₁, w₁, hq, fun k' hk => .head step_scope (harr k' (by simp [exitTo, hk]))⟩
  | goto l' =>
    rcases hq with ⟨rfl, hJ⟩ | ⟨rfl, hJ⟩
    · obtain ⟨e₂, a₂, w₂, hq₂, harr₂⟩ := (key _ a₁ w₁).1 hJ rfl
      exact ⟨e₂, a₂, w₂, hq₂, .of_steps (.head step_scope (harr _ hg0)) harr₂⟩
    · obtain ⟨e₂, a₂, w₂, hq₂, harr₂⟩ := (key _ a₁ w₁).2 hJ rfl
      exact ⟨e₂, a₂, w₂, hq₂, .of_steps (.head step_scope (harr _ hg1)) harr₂⟩
  | ret => exact ⟨_, a₁, w₁, hq, .of_steps (.one step_scope) harr⟩
  | panic ch => exact ⟨_, a₁, w₁, hq, .of_steps (.one step_scope) harr⟩
  | outgrown => exact ⟨_, a₁, w₁, hq, .of_steps (.one step_scope) harr⟩

end Go.Proofs.YtdfanhjnkjdngaaGreatDoor
