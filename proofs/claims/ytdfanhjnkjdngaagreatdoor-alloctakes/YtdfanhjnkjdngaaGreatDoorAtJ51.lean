/- Joined: WWake, WSt. -/
import Derived.Test.YtdfanhjnkjdngaaGreatDoorAtJ48
import Derived.Test.YtdfanhjnkjdngaaGreatDoorAtCOpenH
import Derived.Test.YtdfanhjnkjdngaaGreatDoorAtJ39
import Derived.Test.YtdfanhjnkjdngaaGreatDoorAtJ15
/- The contract of wakes; devices that live. -/
namespace Go.Proofs.YtdfanhjnkjdngaaGreatDoor
open Go.RowKit Go.Shelf Go.Maps
set_option linter.unusedVariables false
set_option maxRecDepth 100000

def Dev.Live (D : Dev) : Prop := D.f = -1 ∧ D.dead = false

theorem Dev.Live.wE {D : Dev} (h : D.Live) : D.wE = 0 := by
  unfold Dev.wE
  rw [if_neg]
  rintro (h1 | h1)
  · rw [h.1] at h1; omega
  · rw [h.2] at h1; cases h1

theorem Dev.Live.ap {D : Dev} (h : D.Live) (s : Stp) : (s.ap D).Live := by
  have hb : ¬ (D.f = 0 ∨ D.dead = true) := by
    rintro (h1 | h1)
    · rw [h.1] at h1; omega
    · rw [h.2] at h1; cases h1
  have hbu : D.burn.Live := ⟨by show (if 0 < D.f then D.f - 1 else D.f) = -1; rw [h.1]; rfl, h.2⟩
  cases s with
  | w i z =>
    show (D.wD i z).Live
    unfold Dev.wD
    rw [if_neg hb]
    split <;> exact hbu
  | f =>
    show D.fD.Live
    unfold Dev.fD
    rw [if_neg hb]
    exact hbu

theorem Dev.Live.run {D : Dev} (h : D.Live) : ∀ l : List Stp, runE l D = 0 ∧ (runD l D).Live
  | [] => ⟨rfl, h⟩
  | s :: r => by
    rw [runE_ok h.wE, runD_ok h.wE]
    exact (h.ap s).run r
termination_by l => l.length

def V2 (g1 g2 : Nat) : List Wr := [⟨20, some ⟨g1, 0, none⟩, 64, 64, fl 1⟩, ⟨21, some ⟨g2, 0, none⟩, 64, 64, fl 2⟩]

end Go.Proofs.YtdfanhjnkjdngaaGreatDoor

/- A log that stands on a device that lives: each call keeps it so. -/
namespace Go.Proofs.YtdfanhjnkjdngaaGreatDoor
open Go.RowKit Go.Shelf
set_option linter.unusedVariables false

theorem spanP_zero {Ps : List Wl} (h : spanP Ps = 0) : Ps = [] := by
  have := spanP_len Ps
  exact List.length_eq_zero_iff.1 (by omega)

theorem Inv.none {G : Geo} {rd : Nat → List Int} {L : Lg} {Ps : List Wl} (h : Inv G rd L Ps) (h0 : L.h.used = 0) : L.Q = fun _ => none := by
  have := h.sp
  rw [h0] at this
  rw [h.q, spanP_zero this]
  rfl

structure Good (G : Geo) (L : Lg) (W : Wl) : Prop where
  b : blkE G (W.map (fun x => (x.1 : Int))) = 0
  q : L.h.seq + G.parts W.length ≤ 4294967295
  u : G.uses W.length ≤ G.lg

theorem good_of {G : Geo} {L : Lg} {V : List Wr} (hs : L.h.seq ≤ 4294967295) (h : lstE G L.h.seq (wv V) = 0) : Good G L (wl V) := by
  unfold lstE at h
  by_cases h1 : (wv V).all (fun x => decide (x.2 = G.blk)) = true
  · rw [if_pos h1] at h
    by_cases h2 : blkE G ((wv V).map (·.1)) = 0
    · rw [if_pos h2] at h
      have hl : (wv V).length = V.length := by simp [wv]
      rw [hl] at h
      have hw : (wl V).length = V.length := wl_len V
      by_cases h3 : G.lg < G.uses V.length
      · rw [if_pos h3] at h; omega
      · rw [if_neg h3] at h
        by_cases h4 : 4294967295 - L.h.seq < G.parts V.length
        · rw [if_pos h4] at h; omega
        · refine ⟨?_, by rw [hw]; omega, by rw [hw]; omega⟩
          have e : (wl V).map (fun x => (x.1 : Int)) = (wv V).map (·.1) := by
            unfold wl wv
            rw [List.map_map, List.map_map]
            refine List.map_congr_left (fun v hv => ?_)
            obtain ⟨h5, _⟩ := blkE_ok h2
            have := (h5 v.b (List.mem_map.2 ⟨(v.b, v.dl), List.mem_map.2 ⟨v, hv, rfl⟩, rfl⟩)).1
            show ((v.b.toNat : Nat) : Int) = v.b
            omega
          rw [e]
          exact h2
    · rw [if_neg h2] at h; exact absurd h h2
  · rw [if_neg h1] at h; omega

theorem setW_keys {G : Geo} : ∀ (W : Wl) (Q : Nat → Option (List Int)), (∀ x ∈ W, G.ib ≤ x.1 ∧ x.1 < G.n) → (∀ b z, Q b = some z → G.ib ≤ b ∧ b < G.n) → ∀ b z, setW Q W b = some z → G.ib ≤ b ∧ b < G.n
  | [], Q, _, hQ, b, z, h => hQ b z h
  | x :: r, Q, hW, hQ, b, z, h => by
    refine setW_keys r _ (fun y hy => hW y (List.mem_cons_of_mem _ hy)) (fun b z h => ?_) b z h
    by_cases e : b = x.1
    · rw [e]; exact hW x (by simp)
    · rw [if_neg e] at h; exact hQ b z h

theorem Good.keys {G : Geo} {L : Lg} {W : Wl} (h : Good G L W) : ∀ x ∈ W, G.ib ≤ x.1 ∧ x.1 < G.n := fun x hx => by
  have := (blkE_ok h.b).1 (x.1 : Int) (List.mem_map.2 ⟨x, hx, rfl⟩)
  omega

end Go.Proofs.YtdfanhjnkjdngaaGreatDoor

