/- TreeKeeps' tree: the root and one open file. -/
import Derived.Test.YtknmgefpjdfenaaTDump
import Derived.Test.YtknmgefpjdfenaaTList
import Derived.Test.YtknmgefpjdfenaaTWrite
namespace Go.Proofs.Ytknmgefpjdfenaa
open Go.RowKit Go.Shelf Go.Maps
set_option linter.unusedVariables false
set_option maxRecDepth 100000

/-- A tree with the file /a, that handle 0 stands for and that has these bytes. -/
structure TS (s : Tr) (r b : Nat) (zs : List Int) : Prop where
  ok : Ok s r
  opn : s.opn 0 = some b
  rt : ∃ t, s.T r = some t ∧ t.k = 2 ∧ t.n = 1 ∧ t.ns = [([97], b)] ∧ t.d = []
  fl : ∃ t, s.T b = some t ∧ t.k = 1 ∧ t.n = 2 ∧ t.ns = [] ∧ t.d = zs
  no : ∀ c t, s.T c = some t → c = r ∨ c = b
  ne : b ≠ r

theorem spl_rt : spl [47] = some [] := spl_jn (ns := []) (by rw [okN_iff]; exact ⟨by decide, fun n hn => (by cases hn), by decide⟩)

theorem TS.deep {s : Tr} {r b : Nat} {zs : List Int} (h : TS s r b zs) (hz : zs.length ≤ 1000) : Deep s (fun c => if c = r then 1 else 0) := by
  obtain ⟨tr, hr, r1, r2, r3, r4⟩ := h.rt
  obtain ⟨tf, hf, f1, f2, f3, f4⟩ := h.fl
  refine ⟨fun c t e x hx => ?_, fun c t e => ?_⟩
  · rcases h.no c t e with rfl | rfl
    · rw [hr] at e
      cases e
      rw [r3] at hx
      simp at hx
      subst hx
      exact ⟨⟨tf, hf⟩, by simp, by simp [h.ne]⟩
    · rw [hf] at e
      cases e
      rw [f3] at hx
      cases hx
  · rcases h.no c t e with rfl | rfl
    · rw [hr] at e
      cases e
      exact ⟨by rw [r4]; simp, by rw [r3]; simp, .inl r1⟩
    · rw [hf] at e
      cases e
      exact ⟨by rw [f4]; omega, by rw [f3]; simp, .inr f3⟩

theorem TS.read {s : Tr} {r b g : Nat} {zs : List Int} {w : World} {S : Nat → Prop} (h : TS s r b zs) (hT : TM w S g s) (hz : zs.length ≤ 300) :
    Calls Try.prog 11 #[.pointer (some ⟨g, 0, none⟩), .int .i64 0, .int .i64 0, .int .i64 300] w fun e w' => ∃ a c, e = .returned (.tuple #[.slice a zs.length c, .int .i64 0]) ∧ Own w.heap.size w' a zs.length c zs ∧ Below w.heap.size w w' := by
  obtain ⟨tf, hf, f1, f2, f3, f4⟩ := h.fl
  have K := read_ok hT (f := 0) (by omega) h.opn h.ok.row_ne hf (by rw [f4]; omega) 0 300 (by omega) (by omega)
  rw [f4] at K
  rw [show min 0 zs.length = 0 by omega, show min 300 (zs.length - 0) = zs.length by omega, List.drop_zero, List.take_length] at K
  exact K

theorem TS.dump {s : Tr} {r b g : Nat} {zs : List Int} {w : World} {S : Nat → Prop} (h : TS s r b zs) (hT : TM w S g s) (hz : zs.length ≤ 300) :
    Calls Try.prog 12 #[.pointer (some ⟨g, 0, none⟩)] w fun e w' => ∃ v x y, e = .returned v ∧ DL w.heap.size w' v [x, y] ∧ y.t.d = zs ∧ Below w.heap.size w w' := by
  obtain ⟨tr, hr, r1, r2, r3, r4⟩ := h.rt
  obtain ⟨tf, hf, f1, f2, f3, f4⟩ := h.fl
  have hd : dumpL s 2 [47] r = [([47], tr), (subP [47] [97], tf)] := by
    rw [dumpL_some hr, r3]
    simp only [List.flatMap_cons, List.flatMap_nil, List.append_nil]
    rw [dumpL_some hf, f3, List.flatMap_nil]
  have K := dump_ok hT h.ok (h.deep (by omega)) 2 (by simp) (by omega) (by rw [hd]; simp)
  rw [hd] at K
  clear hd
  generalize subP [47] [97] = pp at *
  refine K.mono ?_
  rintro e w' ⟨v, ys, rfl, hD, hm, hb⟩
  have hl := congrArg List.length hm
  rw [List.length_map] at hl
  obtain ⟨x, y, rfl⟩ : ∃ x y, ys = [x, y] := by
    cases ys with
    | nil => simp at hl
    | cons x q =>
      cases q with
      | nil => simp at hl
      | cons y q =>
        cases q with
        | nil => exact ⟨x, y, rfl⟩
        | cons _ _ => simp at hl
  have h2 : (y.p, y.t) = (pp, tf) := by
    have := congrArg (fun l => l[1]?) hm
    simpa using this
  have h3 : y.t = tf := (Prod.mk.inj h2).2
  exact ⟨v, x, y, rfl, hD, by rw [h3]; exact f4, hb⟩

theorem TS.list {s : Tr} {r b g : Nat} {zs : List Int} {w : World} {S : Nat → Prop} (h : TS s r b zs) (hT : TM w S g s) :
    Calls Try.prog 15 #[.pointer (some ⟨g, 0, none⟩), .string ⟨#[47]⟩] w fun e w' => ∃ v, e = .returned (.tuple #[v, .int .i64 0]) ∧ w'.ownsRow w.heap.size 46 3 v 1 [.string ⟨#[97]⟩, .int .i64 1, .int .i64 2] ∧ Below w.heap.size w w' := by
  obtain ⟨tr, hr, r1, r2, r3, r4⟩ := h.rt
  obtain ⟨tf, hf, f1, f2, f3, f4⟩ := h.fl
  have K := list_ok hT h.ok spl_rt (show go s [] r = (0, some r) from rfl) hr r1 (by rw [r3]; simp) (by rw [r3]; intro e he; simp at he; subst he; simp)
  refine K.mono ?_
  rintro e w' ⟨v, rfl, hE, hb⟩
  unfold EL at hE
  rw [r3] at hE
  simp only [List.flatMap_cons, List.flatMap_nil, List.append_nil] at hE
  rw [ecs_some hf, f1, f2] at hE
  exact ⟨v, rfl, hE, hb⟩

theorem wrD_nil (ys : List Int) : wrD [] 0 ys = ys := by
  unfold wrD put
  simp

end Go.Proofs.Ytknmgefpjdfenaa
