/- Contracts of field.seek and field.allZero. -/
import Derived.Test.YtmdkcoenjadieaaDoorWGBase
namespace Go.Proofs.YtmdkcoenjadieaaDoor
open Go.RowKit Go.Shelf
set_option linter.unusedVariables false

/-- The place of the first number that is wanted, or the length. -/
def lead (p : Int → Bool) : List Int → Nat
  | [] => 0
  | c :: r => if p c = true then 0 else lead p r + 1

theorem lead_le (p : Int → Bool) (l : List Int) : lead p l ≤ l.length := by
  induction l with
  | nil => simp [lead]
  | cons c r ih => simp only [lead, List.length_cons]; split <;> omega

theorem lead_hit (p : Int → Bool) (l : List Int) (k : Nat) (h : k ≤ lead p l) (hk : k < l.length) (hp : p (l[k]?.getD 0) = true) : lead p l = k := by
  induction l generalizing k with
  | nil => simp at hk
  | cons c r ih =>
    cases k with
    | zero => simp at hp; simp [lead, hp]
    | succ k =>
      simp only [lead] at h ⊢
      by_cases hc : p c = true
      · rw [if_pos hc] at h; omega
      · rw [if_neg hc] at h ⊢
        simp at hk hp
        rw [ih k (by omega) (by omega) (by simpa using hp)]

theorem lead_miss (p : Int → Bool) (l : List Int) (k : Nat) (h : k ≤ lead p l) (hk : k < l.length) (hp : p (l[k]?.getD 0) = false) : k + 1 ≤ lead p l := by
  induction l generalizing k with
  | nil => simp at hk
  | cons c r ih =>
    cases k with
    | zero => simp at hp; simp [lead, hp]
    | succ k =>
      simp only [lead] at h ⊢
      by_cases hc : p c = true
      · rw [if_pos hc] at h; omega
      · rw [if_neg hc] at h ⊢
        simp at hk hp
        have := ih k (by omega) (by omega) (by simpa using hp)
        omega

theorem lead_end (p : Int → Bool) (l : List Int) (h : l.length ≤ lead p l) : lead p l = l.length := by have := lead_le p l; omega

def isz (z : Int) : Bool := z == 0

def nz (z : Int) : Bool := z != 0

/-- Are all 0? -/
def zeroB (l : List Int) : Bool := lead nz l == l.length

theorem isz_any (c : Int) (w : World) : Calls Tryd.prog 91 #[.int .u8 c] w fun e w' => e = .returned (.bool (isz c)) ∧ w = w' := by
  go_enter Tryd.func91, Tryd.ntmps91
  go_wp2
  go_ret
  exact ⟨rfl, rfl⟩

theorem nz_any (c : Int) (w : World) : Calls Tryd.prog 96 #[.int .u8 c] w fun e w' => e = .returned (.bool (nz c)) ∧ w = w' := by
  go_enter Tryd.func96, Tryd.ntmps96
  go_wp2
  go_ret
  exact ⟨rfl, rfl⟩

set_option maxRecDepth 100000 in
set_option maxHeartbeats 1000000 in
theorem seek_isz (a : Option Addr) (len cap : Nat) (zs : List Int) (w : World) (h : Has w a len zs) (hl : len ≤ 140737488351232) :
    Calls Tryd.prog 90 #[.slice a len cap, .func (.func 91) #[] #[]] w fun e w' => e = .returned (.int .i64 (lead isz zs : Int)) ∧ w = w' := by
  have hlen := h.1
  have H := hide h.2
  have HH := hide (fun k => lead_hit isz zs k)
  have HM := hide (fun k => lead_miss isz zs k)
  have HE := hide (lead_end isz zs)
  clear h
  go_enter Tryd.func90, Tryd.ntmps90
  go_wp2
  go_loop [5, 6, 9] (fun x y i => ∃ k : Nat, k ≤ len ∧ Hid (k ≤ lead isz zs) ∧ i = .int .i64 k) (fun _ _ i => len - (intOf i).toNat)
  case atStart => exact ⟨0, Nat.zero_le _, Nat.zero_le _, rfl⟩
  case round =>
    obtain ⟨k, hk, hle, rfl⟩ := hrel
    by_cases hlt : k < len
    · obtain ⟨b, off, rfl, hcs⟩ := unhide H (by omega)
      have hc := hcs k hlt
      obtain ⟨z, hz⟩ : ∃ z, zs[k]?.getD 0 = z := ⟨_, rfl⟩
      rw [hz] at hc
      have HZ := hide hz
      clear hcs hz
      by_cases hp : isz z = true
      · go_wp2_with (go_at_call 91; refine (isz_any _ _).mono ?_; rintro e w' ⟨rfl, rfl⟩)
        go_ret
        exact ⟨ret_int (by rw [unhide HH k hle.out (by omega) (by rw [unhide HZ]; exact hp)]), rfl⟩
      · have hp' : isz z = false := by simpa using hp
        go_wp2_with (go_at_call 91; refine (isz_any _ _).mono ?_; rintro e w' ⟨rfl, rfl⟩)
        exact ⟨⟨k + 1, by omega, unhide HM k hle.out (by omega) (by rw [unhide HZ]; exact hp'), by go_num⟩, by simp [intOf]; omega⟩
    · obtain rfl : k = len := by omega
      go_wp2
      go_ret
      exact ⟨ret_int (by rw [unhide HE (by rw [hlen]; exact hle.out), hlen]), rfl⟩

set_option maxRecDepth 100000 in
set_option maxHeartbeats 1000000 in
theorem seek_nz (a : Option Addr) (len cap : Nat) (zs : List Int) (w : World) (h : Has w a len zs) (hl : len ≤ 140737488351232) :
    Calls Tryd.prog 90 #[.slice a len cap, .func (.func 96) #[] #[]] w fun e w' => e = .returned (.int .i64 (lead nz zs : Int)) ∧ w = w' := by
  have hlen := h.1
  have H := hide h.2
  have HH := hide (fun k => lead_hit nz zs k)
  have HM := hide (fun k => lead_miss nz zs k)
  have HE := hide (lead_end nz zs)
  clear h
  go_enter Tryd.func90, Tryd.ntmps90
  go_wp2
  go_loop [5, 6, 9] (fun x y i => ∃ k : Nat, k ≤ len ∧ Hid (k ≤ lead nz zs) ∧ i = .int .i64 k) (fun _ _ i => len - (intOf i).toNat)
  case atStart => exact ⟨0, Nat.zero_le _, Nat.zero_le _, rfl⟩
  case round =>
    obtain ⟨k, hk, hle, rfl⟩ := hrel
    by_cases hlt : k < len
    · obtain ⟨b, off, rfl, hcs⟩ := unhide H (by omega)
      have hc := hcs k hlt
      obtain ⟨z, hz⟩ : ∃ z, zs[k]?.getD 0 = z := ⟨_, rfl⟩
      rw [hz] at hc
      have HZ := hide hz
      clear hcs hz
      by_cases hp : nz z = true
      · go_wp2_with (go_at_call 96; refine (nz_any _ _).mono ?_; rintro e w' ⟨rfl, rfl⟩)
        go_ret
        exact ⟨ret_int (by rw [unhide HH k hle.out (by omega) (by rw [unhide HZ]; exact hp)]), rfl⟩
      · have hp' : nz z = false := by simpa using hp
        go_wp2_with (go_at_call 96; refine (nz_any _ _).mono ?_; rintro e w' ⟨rfl, rfl⟩)
        exact ⟨⟨k + 1, by omega, unhide HM k hle.out (by omega) (by rw [unhide HZ]; exact hp'), by go_num⟩, by simp [intOf]; omega⟩
    · obtain rfl : k = len := by omega
      go_wp2
      go_ret
      exact ⟨ret_int (by rw [unhide HE (by rw [hlen]; exact hle.out), hlen]), rfl⟩

set_option maxHeartbeats 1000000 in
theorem allZero_any (a : Option Addr) (len cap : Nat) (zs : List Int) (w : World) (h : Has w a len zs) (hl : len ≤ 140737488351232) :
    Calls Tryd.prog 92 #[.slice a len cap] w fun e w' => e = .returned (.bool (zeroB zs)) ∧ w = w' := by
  have K := hide (seek_nz a len cap zs w h hl)
  have hlen := h.1
  clear h
  go_enter Tryd.func92, Tryd.ntmps92
  go_wp2_with (go_at_call 90; refine (unhide K).mono ?_; rintro e w' ⟨rfl, rfl⟩)
  go_ret
  exact ⟨ret_bool (by unfold zeroB; rw [hlen, Bool.eq_iff_iff]; simp; omega), rfl⟩

theorem lead_zeros (l : List Int) (m : Nat) (h : ∀ z ∈ l, isz z = false) : lead isz (l ++ List.replicate m 0) = l.length := by
  induction l with
  | nil =>
    cases m with
    | zero => rfl
    | succ m => simp [List.replicate_succ, lead, isz]
  | cons c r ih =>
    rw [List.cons_append, lead, if_neg (by simp [h c (by simp)]), ih (fun z hz => h z (by simp [hz]))]
    simp

theorem lead_replicate (m : Nat) : lead nz (List.replicate m 0) = m := by
  induction m with
  | zero => rfl
  | succ m ih => rw [List.replicate_succ, lead, if_neg (by simp [nz]), ih]

theorem no_zero_of (p : Int → Bool) (l : List Int) (h : lead p l = l.length) : ∀ z ∈ l, p z = false := by
  induction l with
  | nil => simp
  | cons c r ih =>
    simp only [lead, List.length_cons] at h
    by_cases hc : p c = true
    · rw [if_pos hc] at h; omega
    · rw [if_neg hc] at h
      intro z hz
      rcases List.mem_cons.1 hz with rfl | hz
      · simpa using hc
      · exact ih (by omega) z hz

end Go.Proofs.YtmdkcoenjadieaaDoor
