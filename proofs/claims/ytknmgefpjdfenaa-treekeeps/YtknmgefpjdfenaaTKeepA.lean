/- The walk of TreeKeeps: how its tree comes. -/
import Derived.Test.YtknmgefpjdfenaaTKeepM
import Derived.Test.YtknmgefpjdfenaaGRoom
import Derived.Test.YtknmgefpjdfenaaGSame
import Derived.Test.YtknmgefpjdfenaaGApartF
namespace Go.Proofs.Ytknmgefpjdfenaa
open Go.RowKit Go.Shelf Go.Maps
set_option linter.unusedVariables false
set_option maxRecDepth 100000

theorem Ok.data {s : Tr} {r b : Nat} {t : Th} (h : Ok s r) (ht : s.T b = some t) (d : List Int) (da : Option Addr) (dc : Nat) : Ok (s.upd b { t with d := d, da := da, dc := dc }) r := by
  have old : ∀ c u, (s.upd b { t with d := d, da := da, dc := dc }).T c = some u → ∃ u0, s.T c = some u0 ∧ u.k = u0.k ∧ u.ns = u0.ns := fun c u e => by
    rw [Tr.upd_T] at e
    by_cases hc : c = b
    · rw [if_pos hc] at e
      cases e
      exact ⟨t, by rw [hc]; exact ht, rfl, rfl⟩
    · rw [if_neg hc] at e
      exact ⟨u, e, rfl, rfl⟩
  have new : ∀ c u, s.T c = some u → ∃ u', (s.upd b { t with d := d, da := da, dc := dc }).T c = some u' ∧ u'.k = u.k := fun c u e => by
    rw [Tr.upd_T]
    by_cases hc : c = b
    · rw [if_pos hc]
      rw [hc, ht] at e
      cases e
      exact ⟨_, rfl, rfl⟩
    · rw [if_neg hc]
      exact ⟨u, e, rfl⟩
  refine ⟨h.root, ?_, fun c u e => ?_, fun c u x j e hx => ?_⟩
  · obtain ⟨tr, htr, hk⟩ := h.dir
    obtain ⟨u', hu, hk'⟩ := new r tr htr
    exact ⟨u', hu, hk'.trans hk⟩
  · obtain ⟨u0, h0, hk, _⟩ := old c u e
    rw [hk]
    exact h.kind c u0 h0
  · obtain ⟨u0, h0, _, hn⟩ := old c u e
    rw [hn] at hx
    obtain ⟨u1, h1⟩ := h.live c u0 x j h0 hx
    obtain ⟨u', hu, _⟩ := new j u1 h1
    exact ⟨u', hu⟩

/-- The tree behind New, Create, Open and Write. -/
def keepT (r mp : Nat) (ra : Option Addr) (rc b m1 : Nat) (ra1 : Option Addr) (rc1 : Nat) (zs : List Int) (da : Option Addr) (dc : Nat) : Tr :=
  (((Tr0 5000 r mp ra rc).made 2 1 r (rootT mp) [97] b m1 ra1 rc1).opened 0 (some b)).upd b { newT 1 2 m1 with l := 1, d := zs, da := da, dc := dc }

theorem keep_free (r mp : Nat) (ra : Option Addr) (rc : Nat) : Free (Tr0 5000 r mp ra rc) 2 := ⟨by show 1 ≤ 2; omega, fun i h1 h2 => by
  have h1' : 1 ≤ i := h1
  obtain rfl : i = 1 := by omega
  exact ⟨r, rfl⟩, .inl rfl⟩

theorem keep_ok {r mp : Nat} {ra : Option Addr} {rc b m1 : Nat} {ra1 : Option Addr} {rc1 : Nat} (hbr : b ≠ r) : Ok ((Tr0 5000 r mp ra rc).made 2 1 r (rootT mp) [97] b m1 ra1 rc1) r :=
  (ok_root 5000 r mp ra rc).made (keep_free r mp ra rc) (.inl rfl) (if_pos rfl) rfl (if_neg hbr)

theorem keep_TS {r mp : Nat} {ra : Option Addr} {rc b m1 : Nat} {ra1 : Option Addr} {rc1 : Nat} (hbr : b ≠ r) (zs : List Int) (da : Option Addr) (dc : Nat) : TS (keepT r mp ra rc b m1 ra1 rc1 zs da dc) r b zs := by
  have hb : (((Tr0 5000 r mp ra rc).made 2 1 r (rootT mp) [97] b m1 ra1 rc1).opened 0 (some b)).T b = some { newT 1 2 m1 with l := 1 } := by
    show ((Tr0 5000 r mp ra rc).made 2 1 r (rootT mp) [97] b m1 ra1 rc1).T b = _
    rw [made_T, if_neg hbr, if_pos rfl]
  refine ⟨((keep_ok hbr).opened 0 (some b)).data hb zs da dc, rfl, ⟨{ rootT mp with ns := [([97], b)] }, ?_, rfl, rfl, rfl, rfl⟩, ⟨_, by unfold keepT; rw [Tr.upd_T, if_pos rfl], rfl, rfl, rfl, rfl⟩, fun c t e => ?_, hbr⟩
  · unfold keepT
    rw [Tr.upd_T, if_neg (fun e => hbr e.symm)]
    show ((Tr0 5000 r mp ra rc).made 2 1 r (rootT mp) [97] b m1 ra1 rc1).T r = _
    rw [made_T, if_pos rfl]; rfl
  · unfold keepT at e
    rw [Tr.upd_T] at e
    by_cases hc : c = b
    · exact .inr hc
    · rw [if_neg hc] at e
      have e' : ((Tr0 5000 r mp ra rc).made 2 1 r (rootT mp) [97] b m1 ra1 rc1).T c = some t := e
      rw [made_T] at e'
      by_cases hr : c = r
      · exact .inl hr
      · rw [if_neg hr, if_neg hc] at e'
        unfold Tr0 at e'
        simp [hr] at e'

end Go.Proofs.Ytknmgefpjdfenaa
