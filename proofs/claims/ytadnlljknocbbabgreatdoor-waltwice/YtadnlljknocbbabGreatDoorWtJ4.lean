/- Joined: GI, CFit. -/
import Derived.Test.YtadnlljknocbbabGreatDoorWtJ1
/- Slices of numbers. -/
namespace Go.Proofs.YtadnlljknocbbabGreatDoor
open Go.RowKit Go.Shelf
set_option linter.unusedVariables false

/-- A slice holds these numbers. -/
def IHas (w : World) (a : Option Addr) (len : Nat) (ns : List Int) : Prop :=
  ns.length = len ∧ (0 < len → ∃ b off, a = some ⟨b, off, none⟩ ∧ ∀ j, j < len → w.cell? ⟨b, off + j, none⟩ = some (.int .i64 (ns[j]?.getD 0)))

theorem IHas.lt {w : World} {a : Option Addr} {len : Nat} {zs : List Int} (h : IHas w a len zs) {b off : Nat} (hp : 0 < len) (e : a = some ⟨b, off, none⟩) : b < w.heap.size := by
  obtain ⟨b', off', e', hc⟩ := h.2 hp
  rw [e] at e'
  cases e'
  exact cell_block_lt (hc 0 hp)

theorem IHas.later {w w' : World} {a : Option Addr} {len : Nat} {zs : List Int} (h : IHas w a len zs) (hb : Below w.heap.size w w') : IHas w' a len zs := by
  refine ⟨h.1, fun hp => ?_⟩
  obtain ⟨b, off, e, hc⟩ := h.2 hp
  exact ⟨b, off, e, fun j hj => (hb.cell (p := ⟨b, off + j, none⟩) (h.lt hp e)).trans (hc j hj)⟩

end Go.Proofs.YtadnlljknocbbabGreatDoor

/- Contract of codec.fit. -/
namespace Go.Proofs.YtadnlljknocbbabGreatDoor
open Go.RowKit Go.Shelf
set_option linter.unusedVariables false

/-- All numbers have room in wd bytes. -/
def fitB (wd : Nat) (ns : List Int) : Bool := ns.all (fun v => decide (0 ≤ v ∧ v < 256 ^ wd))

theorem fitB_iff {wd : Nat} {ns : List Int} : fitB wd ns = true ↔ ∀ v ∈ ns, 0 ≤ v ∧ v < 256 ^ wd := by simp [fitB]

theorem fitB_bad {wd : Nat} {ns : List Int} {k : Nat} (hk : k < ns.length) (h : ns[k]?.getD 0 < 0 ∨ 256 ^ wd ≤ ns[k]?.getD 0) : fitB wd ns = false := by
  rw [List.getElem?_eq_getElem hk, Option.getD_some] at h
  cases hf : fitB wd ns with
  | false => rfl
  | true =>
    have := fitB_iff.1 hf _ (List.getElem_mem hk)
    omega

theorem fitB_good {wd : Nat} {ns : List Int} (h : ∀ j, j < ns.length → 0 ≤ ns[j]?.getD 0 ∧ ns[j]?.getD 0 < 256 ^ wd) : fitB wd ns = true := by
  refine fitB_iff.2 fun v hv => ?_
  obtain ⟨j, hj, rfl⟩ := List.getElem_of_mem hv
  have := h j hj
  rwa [List.getElem?_eq_getElem hj, Option.getD_some] at this

set_option maxHeartbeats 1000000 in
theorem fit_any (wd : Nat) (hw : wd = 2 ∨ wd = 4) (a : Option Addr) (len cap : Nat) (ns : List Int) (w : World) (h : IHas w a len ns) (hl : len ≤ 140737488351232) :
    Calls Tryz.prog 79 #[.int .i64 (wd : Int), .slice a len cap] w fun e w' => e = .returned (.bool (fitB wd ns)) ∧ w = w' := by
  have H := hide h
  have hlen := h.1
  clear h
  have hpos : (0 : Int) < 256 ^ wd := Int.pow_pos (by omega)
  have hp2 : (2 : Int) ^ (8 * wd) = 256 ^ wd := by rw [Int.pow_mul]; rfl
  go_enter Tryz.func79, Tryz.ntmps79
  go_wp2
  go_loop [9] (fun i => ∃ k : Nat, k ≤ len ∧ i = .int .i64 (k : Int) ∧ Hid (∀ j, j < k → 0 ≤ ns[j]?.getD 0 ∧ ns[j]?.getD 0 < 256 ^ wd)) (fun i => len - (intOf i).toNat)
  case atStart => exact ⟨0, Nat.zero_le _, rfl, fun j hj => by omega⟩
  case round =>
    obtain ⟨k, hk, rfl, hj⟩ := hrel
    by_cases hlt : k < len
    · obtain ⟨b, off, rfl, hc⟩ := H.out.2 (by omega)
      have hck := hc k hlt
      have HBad := hide (@fitB_bad wd ns k (by omega))
      have HJ : Hid (0 ≤ ns[k]?.getD 0 ∧ ns[k]?.getD 0 < 256 ^ wd → ∀ j, j < k + 1 → 0 ≤ ns[j]?.getD 0 ∧ ns[j]?.getD 0 < 256 ^ wd) := by
        intro h j hjk
        by_cases he : j = k
        · subst he; exact h
        · exact hj.out j (by omega)
      generalize ns[k]?.getD 0 = z at *
      clear hc
      by_cases h1 : z < 0
      · have HN : Hid (fitB wd ns = false) := HBad.out (.inl h1)
        have hd : decide (z < 0) = true := by simpa using h1
        clear HBad HJ
        go_wp2
        go_ret
        exact ⟨by rw [HN.out]; rfl, rfl⟩
      · have hd : decide (z < 0) = false := by simpa using h1
        by_cases h2 : 256 ^ wd ≤ z
        · have HN : Hid (fitB wd ns = false) := HBad.out (.inr h2)
          have hq : (z / 2 ^ (8 * wd) != 0) = true := by
            have : 1 ≤ z / 256 ^ wd := (Int.le_ediv_iff_mul_le hpos).2 (by omega)
            rw [hp2]; simp; omega
          clear HBad HJ hj h2 hpos hp2
          go_wp2
          go_ret
          exact ⟨by rw [HN.out]; rfl, rfl⟩
        · have HJ' : Hid (∀ j, j < k + 1 → 0 ≤ ns[j]?.getD 0 ∧ ns[j]?.getD 0 < 256 ^ wd) := HJ.out ⟨by omega, by omega⟩
          have hq : (z / 2 ^ (8 * wd) != 0) = false := by
            have : z / 256 ^ wd = 0 := Int.ediv_eq_zero_of_lt (by omega) (by omega)
            rw [hp2, this]; rfl
          clear HBad HJ hj h2 hpos hp2
          go_wp2
          exact ⟨⟨k + 1, by omega, by go_num, HJ'⟩, by simp [intOf]; omega⟩
    · obtain rfl : k = len := by omega
      have HN : Hid (fitB wd ns = true) := fitB_good (fun j hj' => hj.out j (by omega))
      go_wp2
      go_ret
      exact ⟨by rw [HN.out]; rfl, rfl⟩

end Go.Proofs.YtadnlljknocbbabGreatDoor

