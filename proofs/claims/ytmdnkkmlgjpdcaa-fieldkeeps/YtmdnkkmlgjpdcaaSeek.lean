/- Contracts of field.seek and field.allZero; slices cut out of slices. -/
import Derived.Test.YtmdnkkmlgjpdcaaRef
namespace Go.Proofs.Ytmdnkkmlgjpdcaa
open Go.RowKit Go.Shelf
set_option linter.unusedVariables false

/-- The place of the first number that is wanted, or the length. -/
def lead (p : Int → Bool) : List Int → Nat
  | [] => 0
  | c :: r => if p c = true then 0 else lead p r + 1
theorem lead_le (p : Int → Bool) (l : List Int) : lead p l ≤ l.length := by
  induction l with
  | nil => simp [lead]
  | cons c r ih => simp only [lead, List.length_cons]; split <;> omega
theorem lead_hit (p : Int → Bool) (l : List Int) (k : Nat) (h : k ≤ lead p l) (hk : k < l.length) (hp : p (l[k]?.getD 0) = true) : lead p l = k := by
  induction l generalizing k with
  | nil => simp at hk
  | cons c r ih =>
    cases k with
    | zero => simp at hp; simp [lead, hp]
    | succ k =>
      simp only [lead] at h ⊢
      by_cases hc : p c = true
      · rw [if_pos hc] at h; omega
      · rw [if_neg hc] at h ⊢
        simp at hk hp
        rw [ih k (by omega) (by omega) (by simpa using hp)]
theorem lead_miss (p : Int → Bool) (l : List Int) (k : Nat) (h : k ≤ lead p l) (hk : k < l.length) (hp : p (l[k]?.getD 0) = false) : k + 1 ≤ lead p l := by
  induction l generalizing k with
  | nil => simp at hk
  | cons c r ih =>
    cases k with
    | zero => simp at hp; simp [lead, hp]
    | succ k =>
      simp only [lead] at h ⊢
      by_cases hc : p c = true
      · rw [if_pos hc] at h; omega
      · rw [if_neg hc] at h ⊢
        simp at hk hp
        have := ih k (by omega) (by omega) (by simpa using hp)
        omega
theorem lead_end (p : Int → Bool) (l : List Int) (h : l.length ≤ lead p l) : lead p l = l.length := by have := lead_le p l; omega

def isz (z : Int) : Bool := z == 0
def nz (z : Int) : Bool := z != 0
/-- Are all 0? -/
def zeroB (l : List Int) : Bool := lead nz l == l.length

theorem isz_any (c : Int) (w : World) : Calls Try.prog 29 #[.int .u8 c] w fun e w' => e = .returned (.bool (isz c)) ∧ w = w' := by
  go_enter Try.func29, Try.ntmps29
  go_wp2
  go_ret
  exact ⟨rfl, rfl⟩
theorem nz_any (c : Int) (w : World) : Calls Try.prog 35 #[.int .u8 c] w fun e w' => e = .returned (.bool (nz c)) ∧ w = w' := by
  go_enter Try.func35, Try.ntmps35
  go_wp2
  go_ret
  exact ⟨rfl, rfl⟩

set_option maxRecDepth 100000 in
set_option maxHeartbeats 1000000 in
theorem seek_isz (a : Option Addr) (len cap : Nat) (zs : List Int) (w : World) (h : Has w a len zs) (hl : len ≤ 140737488351232) :
    Calls Try.prog 28 #[.slice a len cap, .func (.func 29) #[] #[]] w fun e w' => e = .returned (.int .i64 (lead isz zs : Int)) ∧ w = w' := by
  have hlen := h.1
  have H := hide h.2
  have HH := hide (fun k => lead_hit isz zs k)
  have HM := hide (fun k => lead_miss isz zs k)
  have HE := hide (lead_end isz zs)
  clear h
  go_enter Try.func28, Try.ntmps28
  go_wp2
  go_loop [5, 6, 9] (fun x y i => ∃ k : Nat, k ≤ len ∧ Hid (k ≤ lead isz zs) ∧ i = .int .i64 k) (fun _ _ i => len - (intOf i).toNat)
  case atStart => exact ⟨0, Nat.zero_le _, Nat.zero_le _, rfl⟩
  case round =>
    obtain ⟨k, hk, hle, rfl⟩ := hrel
    by_cases hlt : k < len
    · obtain ⟨b, off, rfl, hcs⟩ := unhide H (by omega)
      have hc := hcs k hlt
      obtain ⟨z, hz⟩ : ∃ z, zs[k]?.getD 0 = z := ⟨_, rfl⟩
      rw [hz] at hc
      have HZ := hide hz
      clear hcs hz
      by_cases hp : isz z = true
      · go_wp2_with (go_at_call 29; refine (isz_any _ _).mono ?_; rintro e w' ⟨rfl, rfl⟩)
        go_ret
        exact ⟨ret_int (by rw [unhide HH k hle.out (by omega) (by rw [unhide HZ]; exact hp)]), rfl⟩
      · have hp' : isz z = false := by simpa using hp
        go_wp2_with (go_at_call 29; refine (isz_any _ _).mono ?_; rintro e w' ⟨rfl, rfl⟩)
        exact ⟨⟨k + 1, by omega, unhide HM k hle.out (by omega) (by rw [unhide HZ]; exact hp'), by go_num⟩, by simp [intOf]; omega⟩
    · obtain rfl : k = len := by omega
      go_wp2
      go_ret
      exact ⟨ret_int (by rw [unhide HE (by rw [hlen]; exact hle.out), hlen]), rfl⟩

set_option maxRecDepth 100000 in
set_option maxHeartbeats 1000000 in
theorem seek_nz (a : Option Addr) (len cap : Nat) (zs : List Int) (w : World) (h : Has w a len zs) (hl : len ≤ 140737488351232) :
    Calls Try.prog 28 #[.slice a len cap, .func (.func 35) #[] #[]] w fun e w' => e = .returned (.int .i64 (lead nz zs : Int)) ∧ w = w' := by
  have hlen := h.1
  have H := hide h.2
  have HH := hide (fun k => lead_hit nz zs k)
  have HM := hide (fun k => lead_miss nz zs k)
  have HE := hide (lead_end nz zs)
  clear h
  go_enter Try.func28, Try.ntmps28
  go_wp2
  go_loop [5, 6, 9] (fun x y i => ∃ k : Nat, k ≤ len ∧ Hid (k ≤ lead nz zs) ∧ i = .int .i64 k) (fun _ _ i => len - (intOf i).toNat)
  case atStart => exact ⟨0, Nat.zero_le _, Nat.zero_le _, rfl⟩
  case round =>
    obtain ⟨k, hk, hle, rfl⟩ := hrel
    by_cases hlt : k < len
    · obtain ⟨b, off, rfl, hcs⟩ := unhide H (by omega)
      have hc := hcs k hlt
      obtain ⟨z, hz⟩ : ∃ z, zs[k]?.getD 0 = z := ⟨_, rfl⟩
      rw [hz] at hc
      have HZ := hide hz
      clear hcs hz
      by_cases hp : nz z = true
      · go_wp2_with (go_at_call 35; refine (nz_any _ _).mono ?_; rintro e w' ⟨rfl, rfl⟩)
        go_ret
        exact ⟨ret_int (by rw [unhide HH k hle.out (by omega) (by rw [unhide HZ]; exact hp)]), rfl⟩
      · have hp' : nz z = false := by simpa using hp
        go_wp2_with (go_at_call 35; refine (nz_any _ _).mono ?_; rintro e w' ⟨rfl, rfl⟩)
        exact ⟨⟨k + 1, by omega, unhide HM k hle.out (by omega) (by rw [unhide HZ]; exact hp'), by go_num⟩, by simp [intOf]; omega⟩
    · obtain rfl : k = len := by omega
      go_wp2
      go_ret
      exact ⟨ret_int (by rw [unhide HE (by rw [hlen]; exact hle.out), hlen]), rfl⟩


set_option maxHeartbeats 1000000 in
theorem allZero_any (a : Option Addr) (len cap : Nat) (zs : List Int) (w : World) (h : Has w a len zs) (hl : len ≤ 140737488351232) :
    Calls Try.prog 30 #[.slice a len cap] w fun e w' => e = .returned (.bool (zeroB zs)) ∧ w = w' := by
  have K := hide (seek_nz a len cap zs w h hl)
  have hlen := h.1
  clear h
  go_enter Try.func30, Try.ntmps30
  go_wp2_with (go_at_call 28; refine (unhide K).mono ?_; rintro e w' ⟨rfl, rfl⟩)
  go_ret
  exact ⟨ret_bool (by unfold zeroB; rw [hlen, Bool.eq_iff_iff]; simp; omega), rfl⟩

/-- A slice cut out of a slice: 'b[l:h]', 'b[l:]', 'b[:h]'. -/
def cutAt (a : Option Addr) (cap l : Nat) : Option Addr := if cap = l then a else a.map (·.add (l * 1))

theorem Has.cut {w : World} {a : Option Addr} {len : Nat} {zs : List Int} (h : Has w a len zs) {cap l k : Nat} (hc : len ≤ cap) (hl : l + k ≤ len) : Has w (cutAt a cap l) k ((zs.drop l).take k) := by
  refine ⟨by simp [h.1]; omega, fun hp => ?_⟩
  obtain ⟨b, off, rfl, hcs⟩ := h.2 (by omega)
  refine ⟨b, off + l, ?_, fun j hj => ?_⟩
  · unfold cutAt
    rw [if_neg (by omega), Option.map_some, Nat.mul_one, World.add_zero_spot]
  · rw [Nat.add_assoc, hcs (l + j) (by omega), List.getElem?_take_of_lt hj, List.getElem?_drop]

theorem sizeOf5 (w : World) : (sizeOf (Try.prog.elem 22)).run Try.prog w = .ok 1 w := by kernel_rfl
theorem elem22 : Try.prog.underlying 22 = some (.slice (Try.prog.elem 22)) := by kernel_rfl

theorem run_cut_lh (a : Option Addr) (len cap l k : Nat) (h : l + k ≤ cap) (w : World) :
    (Instr.slice 22 (.slice a len cap) (some (.int .i64 (l : Int))) (some (.int .i64 ((l : Int) + (k : Int)))) none).run Try.prog w = .ok (.slice (cutAt a cap l) k (cap - l)) w := by
  rw [run_slice_lh (P := Try.prog) (w := w) 22 a len cap elem22 .i64 .i64 l (l + k) (by omega) (by omega) (by omega), sizeOf5]
  simp only [Result.andThen, sliced]
  have e1 : (l : Int).toNat = l := by omega
  have e2 : ((l : Int) + (k : Int)).toNat = l + k := by omega
  rw [e1, e2]
  simp [cutAt, Nat.add_sub_cancel_left]
theorem run_cut_l (a : Option Addr) (len cap l : Nat) (h : l ≤ len) (w : World) :
    (Instr.slice 22 (.slice a len cap) (some (.int .i64 (l : Int))) none none).run Try.prog w = .ok (.slice (cutAt a cap l) (len - l) (cap - l)) w := by
  rw [run_slice_l (P := Try.prog) (w := w) 22 a len cap elem22 .i64 l (by omega) (by omega), sizeOf5]
  simp only [Result.andThen, sliced]
  have e1 : (l : Int).toNat = l := by omega
  rw [e1]
  simp [cutAt]
theorem run_cut_h (a : Option Addr) (len cap k : Nat) (h : k ≤ cap) (w : World) :
    (Instr.slice 22 (.slice a len cap) none (some (.int .i64 (k : Int))) none).run Try.prog w = .ok (.slice (cutAt a cap 0) k cap) w := by
  rw [run_slice_h (P := Try.prog) (w := w) 22 a len cap elem22 .i64 k (by omega) (by omega), sizeOf5]
  simp only [Result.andThen, sliced]
  have e1 : (k : Int).toNat = k := by omega
  rw [e1]
  simp [cutAt]

end Go.Proofs.Ytmdnkkmlgjpdcaa
