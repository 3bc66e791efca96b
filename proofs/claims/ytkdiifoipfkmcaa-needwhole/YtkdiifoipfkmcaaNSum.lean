/- Lists of amounts, and their sums: the program's Sum and the document's. -/
import Derived.Test.YtkdiifoipfkmcaaNTreeM
import Derived.Test.YtkdiifoipfkmcaaGI
namespace Go.Proofs.Ytkdiifoipfkmcaa
open Go.RowKit Go.Shelf Ieee
set_option linter.unusedVariables false
set_option maxRecDepth 100000

/-- The words and the numbers of an amount. -/
def itV (p : Nat × Nat × Int × Int) : Value := .complex .f64 p.1 p.2.1
def itOk (p : Nat × Nat × Int × Int) : Prop := Rd p.1 p.2.2.1 ∧ Rd p.2.1 p.2.2.2 ∧ inA p.2.2.1 ∧ inA p.2.2.2

/-- The sums of the first k. -/
def pb (L : List (Nat × Nat × Int × Int)) (k : Nat) : Int := ((L.take k).map (fun p => p.2.2.1)).sum
def pi (L : List (Nat × Nat × Int × Int)) (k : Nat) : Int := ((L.take k).map (fun p => p.2.2.2)).sum
def lb (L : List (Nat × Nat × Int × Int)) : Int := (L.map (fun p => p.2.2.1)).sum
def li (L : List (Nat × Nat × Int × Int)) : Int := (L.map (fun p => p.2.2.2)).sum

theorem pb_next {L : List (Nat × Nat × Int × Int)} {k : Nat} {p : Nat × Nat × Int × Int} (h : L[k]? = some p) : pb L (k + 1) = pb L k + p.2.2.1 ∧ pi L (k + 1) = pi L k + p.2.2.2 := by
  unfold pb pi
  rw [List.take_add_one, List.map_append, List.sum_append, List.map_append, List.sum_append, h]
  simp

theorem pb_all (L : List (Nat × Nat × Int × Int)) : pb L L.length = lb L ∧ pi L L.length = li L := by
  unfold pb pi lb li
  rw [List.take_length]
  exact ⟨rfl, rfl⟩

theorem pb_bd {L : List (Nat × Nat × Int × Int)} (h : ∀ p ∈ L, itOk p) : ∀ k, 0 ≤ pb L k ∧ pb L k ≤ 1073741824 * k ∧ 0 ≤ pi L k ∧ pi L k ≤ 1073741824 * k
  | 0 => by simp [pb, pi]
  | k + 1 => by
    have ih := pb_bd h k
    by_cases hk : k < L.length
    · have hp : L[k]? = some L[k] := List.getElem?_eq_getElem hk
      obtain ⟨_, _, h3, h4⟩ := h L[k] (List.getElem_mem hk)
      obtain ⟨e1, e2⟩ := pb_next hp
      unfold inA at h3 h4
      rw [e1, e2]
      omega
    · have e1 : L.take (k + 1) = L.take k := by rw [List.take_of_length_le (by omega), List.take_of_length_le (by omega)]
      unfold pb pi at *
      rw [e1]
      omega

/-- A slice that reads as this list of amounts. -/
def AHas (u : World) (a : Option Addr) (n : Nat) (L : List (Nat × Nat × Int × Int)) : Prop :=
  L.length = n ∧ (∀ p ∈ L, itOk p) ∧ (0 < n → ∃ b off, a = some ⟨b, off, none⟩ ∧ ∀ j p, L[j]? = some p → u.cell? ⟨b, off + j, none⟩ = some (itV p))

theorem AHas.later {u u' : World} {a : Option Addr} {n : Nat} {L : List (Nat × Nat × Int × Int)} (h : AHas u a n L) (hb : Below u.heap.size u u') : AHas u' a n L := by
  refine ⟨h.1, h.2.1, fun hp => ?_⟩
  obtain ⟨b, off, e, hc⟩ := h.2.2 hp
  refine ⟨b, off, e, fun j p hj => ?_⟩
  have h1 := hc j p hj
  exact (hb.cell (p := ⟨b, off + j, none⟩) (cell_block_lt h1)).trans h1

set_option maxHeartbeats 1000000 in
theorem rsum_any (a : Option Addr) (n c : Nat) (L : List (Nat × Nat × Int × Int)) (w : World) (h : AHas w a n L) (hn : n ≤ 2097152) :
    Calls Try.prog 26 #[.slice a n c] w fun e w' => AnsA e (toE (lb L) (li L)) (toB (lb L) (li L)) (toI (lb L) (li L)) ∧ w = w' := by
  have HL := hide h
  have hlen := h.1
  have HB := hide (pb_bd h.2.1)
  have HX := hide hlen
  clear h hlen
  go_enter Try.func26, Try.ntmps26
  go_wp2
  go_loop [4, 5, 6] (fun b i s => ∃ k : Nat, k ≤ n ∧ b = .int .i64 (pb L k) ∧ i = .int .i64 (pi L k) ∧ s = .int .i64 (k : Int)) (fun _ _ s => n - (intOf s).toNat)
  case atStart => exact ⟨0, Nat.zero_le _, rfl, rfl, rfl⟩
  case round =>
    obtain ⟨k, hk, rfl, rfl, rfl⟩ := hrel
    by_cases hlt : k < n
    · obtain ⟨b, off, rfl, hc⟩ := (unhide HL).2.2 (by omega)
      obtain ⟨p, hp⟩ : ∃ p, L[k]? = some p := ⟨L[k]'(by rw [unhide HX]; exact hlt), List.getElem?_eq_getElem _⟩
      have hok := (unhide HL).2.1 p (List.mem_of_getElem? hp)
      have e1 := hc k p hp
      obtain ⟨x, y, P, I⟩ := p
      change w.cell? ⟨b, off + k, none⟩ = some (.complex .f64 x y) at e1
      have HE := hide (pb_next hp)
      have HP := hide (fun w => rparts_ok x y P I w hok.1 hok.2.1 hok.2.2.1 hok.2.2.2)
      obtain ⟨i1, i2⟩ : inA P ∧ inA I := ⟨hok.2.2.1, hok.2.2.2⟩
      have b1 := unhide HB k
      unfold inA at i1 i2
      have b2 : 0 ≤ pb L k ∧ pb L k ≤ 2251799813685248 := by omega
      have b3 : 0 ≤ pi L k ∧ pi L k ≤ 2251799813685248 := by omega
      have hlt' : (k : Int) < (n : Int) := by omega
      clear hc hp hok b1 hlt
      have HM : Hid (pb L (k + 1) = pb L k + P ∧ pi L (k + 1) = pi L k + I) := HE
      clear HE
      generalize pb L k = pk at *
      generalize pi L k = ik at *
      go_wp2_with fail
      go_at_call 36
      refine (unhide HP _).mono ?_
      rintro r w2 ⟨rfl, rfl⟩
      clear HP
      go_wp2
      exact ⟨⟨k + 1, by omega, by rw [(unhide HM).1], by rw [(unhide HM).2], by go_num⟩, by simp [intOf]; omega⟩
    · obtain rfl : k = n := by omega
      have hb := unhide HB k
      have HA : Hid (pb L k = lb L ∧ pi L k = li L) := by
        have := pb_all L
        rw [unhide HX] at this
        exact this
      have HT := hide (fun w => ramount_total (pb L k) (pi L k) w hb.1 hb.2.2.1)
      clear hb hlt hk
      generalize pb L k = pk at *
      generalize pi L k = ik at *
      go_wp2_with fail
      go_at_call 20
      refine (unhide HT _).mono ?_
      rintro r w2 ⟨⟨u, v, rfl, hu, hv⟩, rfl⟩
      have HU := hide (And.intro hu hv)
      clear hu hv HT
      go_wp2
      go_ret2
      obtain ⟨e1, e2⟩ := unhide HA
      rw [← e1, ← e2]
      exact ⟨⟨u, v, rfl, (unhide HU).1, (unhide HU).2⟩, rfl⟩

set_option maxHeartbeats 1000000 in
theorem nsum_any (a : Option Addr) (n c : Nat) (L : List (Nat × Nat × Int × Int)) (w : World) (h : AHas w a n L) (hn : n ≤ 2097152) :
    Calls Try.prog 16 #[.slice a n c] w fun e w' => AnsA e (toE (lb L) (li L)) (toB (lb L) (li L)) (toI (lb L) (li L)) ∧ w = w' := by
  have HL := hide h
  have hlen := h.1
  have HX := hide hlen
  clear h hlen
  go_enter Try.func16, Try.ntmps16
  go_wp2
  go_loop [4, 9] (fun s i => ∃ k x y : Nat, k ≤ n ∧ s = .complex .f64 x y ∧ i = .int .i64 (k : Int) ∧ Hid (Am x (pb L k) ∧ Am y (pi L k))) (fun _ i => n - (intOf i).toNat)
  case atStart => exact ⟨0, 0, 0, Nat.zero_le _, rfl, rfl, hide ⟨am_of (n := 0) rd_zero (by omega) (by omega), am_of (n := 0) rd_zero (by omega) (by omega)⟩⟩
  case round =>
    obtain ⟨k, x, y, hk, rfl, rfl, hA⟩ := hrel
    by_cases hlt : k < n
    · obtain ⟨b, off, rfl, hc⟩ := (unhide HL).2.2 (by omega)
      obtain ⟨p, hp⟩ : ∃ p, L[k]? = some p := ⟨L[k]'(by rw [unhide HX]; exact hlt), List.getElem?_eq_getElem _⟩
      have hok := (unhide HL).2.1 p (List.mem_of_getElem? hp)
      have e1 := hc k p hp
      obtain ⟨u, v, P, I⟩ := p
      change w.cell? ⟨b, off + k, none⟩ = some (.complex .f64 u v) at e1
      obtain ⟨i1, i2⟩ : inA P ∧ inA I := ⟨hok.2.2.1, hok.2.2.2⟩
      have HP := hide (fun w => sound_am u v P I w (am_of hok.1 i1.1 i1.2) (am_of hok.2.1 i2.1 i2.2))
      rw [okA_iff.2 ⟨i1.2, i2.2⟩] at HP
      obtain ⟨q, r, hs, h1, h2⟩ := am_two (unhide hA).1 (unhide hA).2 hok.1 hok.2.1 i1 i2
      have sm := fun w => run_complex_sum (P := Try.prog) w .add (.inl rfl) 26 .f64 x y u v q r hs
      have HN : Hid (Am q (pb L (k + 1)) ∧ Am r (pi L (k + 1))) := by
        obtain ⟨g1, g2⟩ := pb_next hp
        rw [g1, g2]
        exact ⟨h1, h2⟩
      have hlt' : (k : Int) < (n : Int) := by omega
      clear hc hp hok i1 i2 hs h1 h2 hlt hA
      go_wp2_with fail
      go_at_call 27
      refine (unhide HP _).mono ?_
      rintro r w2 ⟨rfl, rfl⟩
      clear HP
      go_wp2
      exact ⟨⟨k + 1, _, _, by omega, rfl, by go_num, HN⟩, by simp [intOf]; omega⟩
    · obtain rfl : k = n := by omega
      have HS : Hid (Am x (lb L) ∧ Am y (li L)) := by
        have := pb_all L
        rw [unhide HX] at this
        have h2 := unhide hA
        rw [this.1, this.2] at h2
        exact h2
      have HT := hide (fun w => total_am x y (lb L) (li L) w (unhide HS).1 (unhide HS).2)
      clear hlt hk hA HS
      go_wp2_with fail
      go_at_call 25
      refine (unhide HT _).mono ?_
      rintro r w2 ⟨⟨u, v, rfl, hu, hv⟩, rfl⟩
      have HU := hide (And.intro hu hv)
      clear hu hv HT
      go_wp2
      go_ret2
      exact ⟨⟨u, v, rfl, (unhide HU).1, (unhide HU).2⟩, rfl⟩

end Go.Proofs.Ytkdiifoipfkmcaa
