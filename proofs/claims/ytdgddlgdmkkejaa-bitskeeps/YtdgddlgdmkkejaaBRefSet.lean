/- The contract of the document's Set; what both Sets answer. -/
import Derived.Test.YtdgddlgdmkkejaaBSet
namespace Go.Proofs.Ytdgddlgdmkkejaa
open Go.RowKit Go.Shelf
set_option linter.unusedVariables false

theorem own_bare (w : World) : Own w.heap.size (w.alloc (.cells #[] 5)) (some ⟨w.heap.size, 0, none⟩) 0 0 [] :=
  ⟨rfl, Nat.le_refl _, by unfold maxLen; omega, .inr ⟨w.heap.size, #[], rfl, Nat.le_refl _, World.alloc_heap_new w _, rfl, rfl⟩⟩

/-- append([]byte{}, x...). -/
theorem app_one {w : World} {a : Option Addr} {n c : Nat} {xs : List Int} (h : Has w a n xs) (hn : n ≤ 140737488351232) :
    ∃ a1 c1 w1, (∀ ty, (Builtin.append_ #[22, 22] ty #[.slice (some ⟨w.heap.size, 0, none⟩) 0 0, .slice a n c]).run Try.prog (w.alloc (.cells #[] 5)) = .ok (.slice a1 n c1) w1) ∧ Own w.heap.size w1 a1 n c1 xs ∧ Below w.heap.size w w1 := by
  have hb0 : Below w.heap.size w (w.alloc (.cells #[] 5)) := (Below.refl _ w).alloc (Nat.le_refl _) _
  obtain ⟨a1, c1, w1, r1, o1, _, b1⟩ := run_append_bytes (own_bare w) hb0.size c (h.later hb0) (by omega)
  rw [Nat.zero_add] at r1 o1
  exact ⟨a1, c1, w1, r1, o1, hb0.trans b1⟩

/-- What Set answers. -/
def sv (len : Nat) (zs : List Int) (i : Int) (on : Bool) : List Int := if inB len i then setB zs i.toNat on else []

theorem sv_nat {len n : Nat} (zs : List Int) (on : Bool) (h : n < 8 * len) : sv len zs (n : Int) on = setB zs n on := by
  rw [sv, if_pos (inB_of h), Int.toNat_natCast]

theorem sv_byts {len : Nat} {zs : List Int} (h : ∀ z ∈ zs, 0 ≤ z ∧ z ≤ 255) (i : Int) (on : Bool) : ∀ z ∈ sv len zs i on, 0 ≤ z ∧ z ≤ 255 := by
  unfold sv
  split
  · exact setB_byts h _ _
  · intro z hz; simp at hz

set_option maxHeartbeats 1000000 in
theorem set_bad (a : Option Addr) (len cap : Nat) (i : Int) (on : Bool) (w : World) (hl : len ≤ 140737488351232) (hi : inB len i = false) :
    Calls Try.prog 12 #[.slice a len cap, .int .i64 i, .bool on] w fun e w' => e = .returned (.tuple #[.slice none 0 0, .int .i64 2]) ∧ w = w' := by
  have K := hide (fun w => hasBit_any a len cap i w (by omega))
  rw [hi] at K
  go_enter Try.func12, Try.ntmps12
  go_wp2_with (go_at_call 25; refine (unhide K _).mono ?_; rintro e w' ⟨rfl, rfl⟩)
  go_ret2
  exact ⟨rfl, rfl⟩

theorem set_any (a : Option Addr) (len cap : Nat) (zs : List Int) (i : Int) (on : Bool) (w : World) (hh : Has w a len zs) (hby : ∀ z ∈ zs, 0 ≤ z ∧ z ≤ 255) (hl : len ≤ 140737488351232) :
    Calls Try.prog 12 #[.slice a len cap, .int .i64 i, .bool on] w fun e w' => ∃ a' l c, e = .returned (.tuple #[.slice a' l c, .int .i64 (ge len i)]) ∧ Hid (l ≤ len ∧ Own w.heap.size w' a' l c (sv len zs i on)) ∧ Hid (Below w.heap.size w w') := by
  by_cases hin : inB len i = true
  · obtain ⟨n, rfl, hn⟩ := inB_nat hin
    refine (set_good a len cap zs n on w hh hby hl hn).mono ?_
    rintro e w' ⟨rfl, hB, hb⟩
    refine ⟨_, _, _, by rw [ge, hin]; rfl, ⟨Nat.le_refl _, ?_⟩, hb⟩
    rw [sv_nat zs on hn]
    exact hB.out.own (by rw [setB_length]; exact hh.1) (Nat.le_refl _) hl
  · have hin' : inB len i = false := by simpa using hin
    refine (set_bad a len cap i on w hl hin').mono ?_
    rintro e w' ⟨rfl, rfl⟩
    refine ⟨_, _, _, by rw [ge, hin']; rfl, ⟨Nat.zero_le _, ?_⟩, Below.refl _ _⟩
    rw [sv, hin']
    exact Own.nil _ _

theorem refSet_bad (a : Option Addr) (len cap : Nat) (zs : List Int) (i : Int) (on : Bool) (w : World) (hh : Has w a len zs) (hby : ∀ z ∈ zs, 0 ≤ z ∧ z ≤ 255) (hl : len ≤ 140737488351232) (hi : inB len i = false) :
    Calls Try.prog 13 #[.slice a len cap, .int .i64 i, .bool on] w fun e w' => e = .returned (.tuple #[.slice none 0 0, .int .i64 2]) ∧ w = w' := by
  have K := hide (refGet_any a len cap zs i w hh hby (by omega))
  have e1 : gv len zs i = false := by rw [gv, hi]; rfl
  have e2 : ge len i = 2 := by rw [ge, hi]; rfl
  rw [e1, e2] at K
  clear e1 e2 hh hby hi
  go_enter Try.func13, Try.ntmps13
  go_wp2_with (go_at_call 11; refine (unhide K).mono ?_; rintro e w' ⟨rfl, rfl⟩)
  go_ret2
  exact ⟨rfl, rfl⟩

theorem sb_up {n k : Nat} (h : tb n k = false) : sb n k true = n + 2 ^ k := by unfold sb; rw [if_pos rfl, h]; rfl
theorem sb_down {n k : Nat} (h : tb n k = true) : sb n k false = n - 2 ^ k := by unfold sb; rw [h]; rfl
theorem tb_ge {n k : Nat} (hn : n < 256) (hk : k < 8) (h : tb n k = true) : 2 ^ k ≤ n := by
  have := bit_and hn hk
  rw [h] at this
  rw [if_pos rfl] at this
  rw [← this]
  exact Nat.and_le_left

set_option maxRecDepth 100000 in
set_option maxHeartbeats 4000000 in
theorem refSet_good (a : Option Addr) (len cap : Nat) (zs : List Int) (n : Nat) (on : Bool) (w : World) (hh : Has w a len zs) (hby : ∀ z ∈ zs, 0 ≤ z ∧ z ≤ 255) (hl : len ≤ 140737488351232) (hn : n < 8 * len) :
    Calls Try.prog 13 #[.slice a len cap, .int .i64 (n : Int), .bool on] w fun e w' => ∃ a' c, e = .returned (.tuple #[.slice a' len c, .int .i64 0]) ∧ Hid (Own w.heap.size w' a' len c (setB zs n on)) ∧ Below w.heap.size w w' := by
  have K := hide (refGet_any a len cap zs (n : Int) w hh hby (by omega))
  have e1 : gv len zs (n : Int) = bitAt zs n := by rw [gv, inB_of hn, Int.toNat_natCast, Bool.true_and]
  have e2 : ge len (n : Int) = 0 := by rw [ge, inB_of hn]; rfl
  rw [e1, e2] at K
  clear e1 e2
  obtain ⟨a1, c1, w1, r1, o1, b1⟩ := app_one (c := cap) hh hl
  obtain ⟨g, rfl, hg, hck, hfr⟩ := o1.cell (j := n / 8) (by omega)
  rw [← byteN_int hby] at hck
  have hlen := hh.1
  have hx := byteN_lt hby (n / 8)
  have hr8 : n % 8 < 8 := Nat.mod_lt _ (by omega)
  have R := hide r1
  have HO := hide o1
  have HB := hide b1
  have HS : Hid (∀ z : Int, Own w.heap.size (w1.setCell ⟨g, n / 8, none⟩ (.int .u8 z)) (some ⟨g, 0, none⟩) len c1 (zs.set (n / 8) z) ∧ Below w.heap.size w (w1.setCell ⟨g, n / 8, none⟩ (.int .u8 z))) := fun z => ⟨o1.set _ _, b1.setCell hg _⟩
  have HT : Hid (∀ on, setB zs n on = zs.set (n / 8) ((sb (byteN zs (n / 8)) (n % 8) on : Nat) : Int)) := fun _ => rfl
  have HU := hide (fun on h => set_byteN hby n on h (by omega))
  have hBt : Hid (bitAt zs n = tb (byteN zs (n / 8)) (n % 8)) := rfl
  obtain ⟨r, hr⟩ : ∃ r, n % 8 = r := ⟨_, rfl⟩
  rw [hr] at HT hBt hr8
  have hpl := fun on => sb_lt hx hr8 on
  have hge := tb_ge hx hr8
  have hp2 := (pow_bd hr8).2
  have hr' : (n : Int) % 8 = (r : Int) := by omega
  have hql : n / 8 < len := by omega
  have hqi : (n : Int) / 8 = ((n / 8 : Nat) : Int) := by omega
  generalize byteN zs (n / 8) = x at *
  generalize n / 8 = q at *
  clear hh hby r1 o1 b1 hlen
  cases on <;> cases hT : tb x r
  · have hBB : bitAt zs n = false := by rw [hBt.out]; exact hT
    rw [hBB] at K
    clear hBB
    go_enter Try.func13, Try.ntmps13
    go_wp2_with (first | (go_at_call 11; refine (unhide K).mono ?_; rintro e w' ⟨rfl, rfl⟩) | (at_builtin; refine wpList_append_run 22 rfl _ _ rfl _ _ _ rfl rfl (unhide R) ?_))
    go_loop [11, 12] (fun c j => ∃ k : Nat, k ≤ r ∧ j = .int .i64 (k : Int) ∧ c = .int .i64 ((2 ^ k : Nat) : Int)) (fun _ j => r - (intOf j).toNat)
    case atStart => exact ⟨0, Nat.zero_le _, rfl, rfl⟩
    case round =>
      obtain ⟨k, hk, rfl, rfl⟩ := hrel
      by_cases hlt : k < r
      · have HP : Hid (2 ^ (k + 1) = 2 ^ k * 2) := Nat.pow_succ 2 k
        have hk2 := (pow_bd (show k < 8 by omega)).2
        generalize 2 ^ k = y at *
        go_wp2
        exact ⟨⟨k + 1, by omega, by go_num, val_int (by rw [HP.out]; omega)⟩, by simp [intOf]; omega⟩
      obtain rfl : k = r := by omega
      have hlt' : ¬ ((k : Nat) : Int) < (k : Int) := by omega
      have HZ : Hid (setB zs n false = zs) := unhide HU false (by rw [hBt.out]; exact hT)
      generalize 2 ^ k = p at *
      go_wp2
      go_ret2
      exact ⟨_, _, rfl, by rw [HZ.out]; exact HO.out, HB.out⟩
  · have hBB : bitAt zs n = true := by rw [hBt.out]; exact hT
    rw [hBB] at K
    clear hBB
    go_enter Try.func13, Try.ntmps13
    go_wp2_with (first | (go_at_call 11; refine (unhide K).mono ?_; rintro e w' ⟨rfl, rfl⟩) | (at_builtin; refine wpList_append_run 22 rfl _ _ rfl _ _ _ rfl rfl (unhide R) ?_))
    go_loop [11, 12] (fun c j => ∃ k : Nat, k ≤ r ∧ j = .int .i64 (k : Int) ∧ c = .int .i64 ((2 ^ k : Nat) : Int)) (fun _ j => r - (intOf j).toNat)
    case atStart => exact ⟨0, Nat.zero_le _, rfl, rfl⟩
    case round =>
      obtain ⟨k, hk, rfl, rfl⟩ := hrel
      by_cases hlt : k < r
      · have HP : Hid (2 ^ (k + 1) = 2 ^ k * 2) := Nat.pow_succ 2 k
        have hk2 := (pow_bd (show k < 8 by omega)).2
        generalize 2 ^ k = y at *
        go_wp2
        exact ⟨⟨k + 1, by omega, by go_num, val_int (by rw [HP.out]; omega)⟩, by simp [intOf]; omega⟩
      obtain rfl : k = r := by omega
      have hlt' : ¬ ((k : Nat) : Int) < (k : Int) := by omega
      have e1 := sb_down hT
      have e2 := hpl false
      have e3 := hge hT
      have HZ : Hid (setB zs n false = zs.set q ((sb x k false : Nat) : Int)) := unhide HT false
      rw [e1] at e2 HZ
      have hcv : IntKind.u8.wrap ((x : Int) - ((2 ^ k : Nat) : Int)) = ((x - 2 ^ k : Nat) : Int) := by rw [IntKind.wrap_u8']; omega
      have hpp : 2 ^ k < 256 := hp2
      clear e1
      generalize hpe : 2 ^ k = p at *
      go_wp2
      go_ret2
      exact ⟨_, _, rfl, by rw [HZ.out]; exact (unhide HS _).1, (unhide HS _).2⟩
  · have hBB : bitAt zs n = false := by rw [hBt.out]; exact hT
    rw [hBB] at K
    clear hBB
    go_enter Try.func13, Try.ntmps13
    go_wp2_with (first | (go_at_call 11; refine (unhide K).mono ?_; rintro e w' ⟨rfl, rfl⟩) | (at_builtin; refine wpList_append_run 22 rfl _ _ rfl _ _ _ rfl rfl (unhide R) ?_))
    go_loop [11, 12] (fun c j => ∃ k : Nat, k ≤ r ∧ j = .int .i64 (k : Int) ∧ c = .int .i64 ((2 ^ k : Nat) : Int)) (fun _ j => r - (intOf j).toNat)
    case atStart => exact ⟨0, Nat.zero_le _, rfl, rfl⟩
    case round =>
      obtain ⟨k, hk, rfl, rfl⟩ := hrel
      by_cases hlt : k < r
      · have HP : Hid (2 ^ (k + 1) = 2 ^ k * 2) := Nat.pow_succ 2 k
        have hk2 := (pow_bd (show k < 8 by omega)).2
        generalize 2 ^ k = y at *
        go_wp2
        exact ⟨⟨k + 1, by omega, by go_num, val_int (by rw [HP.out]; omega)⟩, by simp [intOf]; omega⟩
      obtain rfl : k = r := by omega
      have hlt' : ¬ ((k : Nat) : Int) < (k : Int) := by omega
      have e1 := sb_up hT
      have e2 := hpl true
      skip
      have HZ : Hid (setB zs n true = zs.set q ((sb x k true : Nat) : Int)) := unhide HT true
      rw [e1] at e2 HZ
      have hcv : IntKind.u8.wrap ((x : Int) + ((2 ^ k : Nat) : Int)) = ((x + 2 ^ k : Nat) : Int) := by rw [IntKind.wrap_u8']; omega
      have hpp : 2 ^ k < 256 := hp2
      clear e1
      generalize hpe : 2 ^ k = p at *
      go_wp2
      go_ret2
      exact ⟨_, _, rfl, by rw [HZ.out]; exact (unhide HS _).1, (unhide HS _).2⟩
  · have hBB : bitAt zs n = true := by rw [hBt.out]; exact hT
    rw [hBB] at K
    clear hBB
    go_enter Try.func13, Try.ntmps13
    go_wp2_with (first | (go_at_call 11; refine (unhide K).mono ?_; rintro e w' ⟨rfl, rfl⟩) | (at_builtin; refine wpList_append_run 22 rfl _ _ rfl _ _ _ rfl rfl (unhide R) ?_))
    go_loop [11, 12] (fun c j => ∃ k : Nat, k ≤ r ∧ j = .int .i64 (k : Int) ∧ c = .int .i64 ((2 ^ k : Nat) : Int)) (fun _ j => r - (intOf j).toNat)
    case atStart => exact ⟨0, Nat.zero_le _, rfl, rfl⟩
    case round =>
      obtain ⟨k, hk, rfl, rfl⟩ := hrel
      by_cases hlt : k < r
      · have HP : Hid (2 ^ (k + 1) = 2 ^ k * 2) := Nat.pow_succ 2 k
        have hk2 := (pow_bd (show k < 8 by omega)).2
        generalize 2 ^ k = y at *
        go_wp2
        exact ⟨⟨k + 1, by omega, by go_num, val_int (by rw [HP.out]; omega)⟩, by simp [intOf]; omega⟩
      obtain rfl : k = r := by omega
      have hlt' : ¬ ((k : Nat) : Int) < (k : Int) := by omega
      have HZ : Hid (setB zs n true = zs) := unhide HU true (by rw [hBt.out]; exact hT)
      generalize 2 ^ k = p at *
      go_wp2
      go_ret2
      exact ⟨_, _, rfl, by rw [HZ.out]; exact HO.out, HB.out⟩

end Go.Proofs.Ytdgddlgdmkkejaa
