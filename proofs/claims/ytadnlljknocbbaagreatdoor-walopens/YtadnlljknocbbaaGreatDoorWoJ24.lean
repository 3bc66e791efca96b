/- Joined: CNum, GRefGet, CRef, CRPutM. -/
import Derived.Test.YtadnlljknocbbaaGreatDoorWoJ2
import Derived.Test.YtadnlljknocbbaaGreatDoorWoJ3
import Derived.Test.YtadnlljknocbbaaGreatDoorWoJ23
import Derived.Test.YtadnlljknocbbaaGreatDoorWoJ4
/- Contract of codec.numbers. -/
namespace Go.Proofs.YtadnlljknocbbaaGreatDoor
open Go.RowKit Go.Shelf
set_option linter.unusedVariables false

/-- The bytes of numbers, wd bytes each. -/
def numsB (wd : Nat) (ns : List Int) : List Int := (ns.map (digits wd)).flatten

theorem numsB_succ (wd : Nat) (ns : List Int) (k : Nat) (hk : k < ns.length) : numsB wd (ns.take (k + 1)) = numsB wd (ns.take k) ++ digits wd (ns[k]?.getD 0) := by
  rw [numsB, List.take_succ_eq_append_getElem hk, List.getElem?_eq_getElem hk, List.map_append, List.flatten_append]
  simp only [numsB, List.map_cons, List.map_nil, List.flatten_cons, List.flatten_nil, List.append_nil, Option.getD_some]

theorem length_numsB (wd : Nat) (ns : List Int) : (numsB wd ns).length = wd * ns.length := by
  induction ns with
  | nil => rfl
  | cons x xs ih =>
    have : numsB wd (x :: xs) = digits wd x ++ numsB wd xs := by simp [numsB]
    rw [this, List.length_append, length_digits, ih, List.length_cons, Nat.mul_succ]; omega

theorem numsB_byte (wd : Nat) (ns : List Int) : ∀ z ∈ numsB wd ns, 0 ≤ z ∧ z ≤ 255 := by
  intro z hz
  simp only [numsB, List.mem_flatten, List.mem_map] at hz
  obtain ⟨l, ⟨v, _, rfl⟩, hz⟩ := hz
  exact digits_byte wd v z hz

set_option maxRecDepth 100000 in
set_option maxHeartbeats 2000000 in
/-- **codec.numbers**, of numbers that fit. -/
theorem numbers_any (wd : Nat) (hw : wd = 1 ∨ wd = 2 ∨ wd = 4) (a : Option Addr) (len cap : Nat) (ns : List Int) (w : World) (h : IHas w a len ns) (hl : len ≤ 65536) (hf : fitB wd ns = true) (M : Nat) (hM : M = wd * len) :
    Calls Tryz.prog 137 #[.int .i64 (wd : Int), .slice a len cap] w fun e w' => ∃ a' c', e = .returned (.slice a' M c') ∧ Hid (Own w.heap.size w' a' M c' (numsB wd ns)) ∧ Below w.heap.size w w' := by
  have hM1 : M ≤ 262144 := by rcases hw with rfl | rfl | rfl <;> omega
  have hMi : (wd : Int) * (len : Int) = (M : Int) := by rw [hM]; simp
  obtain ⟨i0, hi, hz0, hz1, hz2⟩ := info_parts info5
  have hmk0 : ∀ w : World, (Instr.makeSlice 50 (.int .i64 0) (.int .i64 (M : Int))).run Tryz.prog w = .ok (.slice (some ⟨w.heap.size, 0, none⟩) 0 M) (w.alloc (.cells (madeCells #[.int .u8 0] M) 5)) := by
    intro w
    have := run_make (P := Tryz.prog) w 50 5 i0 (.int .u8 0) Tryz.underlying50 hi hz0 .i64 .i64 0 (M : Int) (by omega) (by omega) (by rw [hz2]; omega) (by omega)
    rw [this, hz1, show ((M : Nat) : Int).toNat = M by omega, Nat.mul_one]
    rfl
  have hmk := run_make_row' (P := Tryz.prog) 50 5 (.int .u8 0) 1 Tryz.underlying50 info5 rfl .i64 .i64 wd (by omega) (by omega)
  have hb0 : Below w.heap.size w (w.alloc (.cells (madeCells #[.int .u8 0] M) 5)) := (Below.refl _ w).alloc (Nat.le_refl _) _
  have HO : Hid (Own w.heap.size (w.alloc (.cells (madeCells #[.int .u8 0] M) 5)) (some ⟨w.heap.size, 0, none⟩) 0 M (numsB wd (ns.take 0))) :=
    ⟨rfl, by omega, by unfold maxLen; omega, .inr ⟨w.heap.size, _, rfl, Nat.le_refl _, World.alloc_heap_new w _, by rw [← Array.length_toList, toList_madeCells_one, List.length_replicate], by simp [numsB]⟩⟩
  have H := hide h
  have hlen := h.1
  have HF := hide (fitB_iff.1 hf)
  have HM := hide hM
  have HW := hide hw
  have hw4 : wd ≤ 4 := by omega
  clear h hf hi hz0 hz1 hz2 i0 hM hw
  go_enter Tryz.func137, Tryz.ntmps137
  go_wp2
  go_loopw [5, 17] (fun out i wr => ∃ (k m : Nat) (a : Option Addr) (c : Nat), k ≤ len ∧ i = .int .i64 (k : Int) ∧ out = .slice a m c ∧ Hid (m = wd * k ∧ Own w.heap.size wr a m c (numsB wd (ns.take k))) ∧ Hid (Below w.heap.size w wr)) (fun _ i _ => len - (intOf i).toNat)
  case atStart => exact ⟨0, 0, _, _, Nat.zero_le _, rfl, rfl, ⟨rfl, HO⟩, hb0⟩
  case round =>
    obtain ⟨k, m, a1, c1, hk, rfl, rfl, hO, hbk⟩ := hrel
    clear HO hmk0 hb0
    by_cases hlt : k < len
    · obtain ⟨b, off, rfl, hc⟩ := (H.out.later hbk.out).2 (by omega)
      have hck := hc k hlt
      have hv := HF.out (ns[k]?.getD 0) (by rw [List.getElem?_eq_getElem (by omega)]; exact List.getElem_mem _)
      have hsu := numsB_succ wd ns k (by omega)
      generalize ns[k]?.getD 0 = z at *
      have K : Hid (Calls Tryz.prog 159 #[.slice (some ⟨wr.heap.size, 0, none⟩) wd wd, .int .i64 0, .int .i64 (wd : Int), .int .i64 z] (wr.alloc (.cells (madeCells #[.int .u8 0] wd) 5)) fun e w' => ∃ g, e = .returned (.tuple #[.slice (some ⟨g, 0, none⟩) wd wd, .int .i64 0]) ∧ ∃ a2 c2 w2, (∀ ty, (Builtin.append_ #[50, 50] ty #[.slice a1 m c1, .slice (some ⟨g, 0, none⟩) wd wd]).run Tryz.prog w' = .ok (.slice a2 (m + wd) c2) w2) ∧ Hid (m + wd = wd * (k + 1) ∧ Own w.heap.size w2 a2 (m + wd) c2 (numsB wd (ns.take (k + 1)))) ∧ Hid (Below w.heap.size w w2)) := by
        have hb1 : Below wr.heap.size wr (wr.alloc (.cells (madeCells #[.int .u8 0] wd) 5)) := (Below.refl _ wr).alloc (Nat.le_refl _) _
        have hrow := (make_blockC wr wd).row (len := wd) (by simp) (by omega) (by intro z hz; rw [List.eq_of_mem_replicate hz]; omega)
        have hq : putErr wd 0 (wd : Int) z = 0 := by
          unfold putErr
          have := numErr_ok (len := wd) (at0 := 0) (wd := wd) HW.out (by omega)
          rw [show ((0 : Nat) : Int) = 0 from rfl] at this
          rw [if_pos this, if_neg (by omega), Int.toNat_natCast, if_pos hv.2]
        refine (put_good _ wd wd _ 0 wd z _ hrow (by omega) hq).mono ?_
        rintro e w' ⟨g, rfl, hg, hB, hb⟩
        rw [show (0 : Int).toNat = 0 from rfl, Int.toNat_natCast] at hB
        have hpw : put (List.replicate wd 0) 0 (digits wd z) = digits wd z := by simp [put, length_digits]
        rw [hpw] at hB
        have hbw : Below wr.heap.size wr w' := hb1.trans (hb.mono (by simp))
        have hbb : Below w.heap.size w w' := hbk.out.trans (hbw.mono hbk.out.size)
        have hml : m + wd ≤ 140737488355328 := by
          have := hO.out.1
          have : wd * k ≤ 4 * 65536 := Nat.mul_le_mul hw4 (by omega)
          omega
        obtain ⟨a2, c2, w2, r2, o2, _, b2⟩ := run_append_bytes (hO.out.2.below hbw (Nat.le_refl _)) hbb.size wd (hB.has (len := wd) (length_digits _ _)) hml
        refine ⟨g, rfl, a2, c2, w2, r2, ⟨by rw [hO.out.1, Nat.mul_succ], ?_⟩, hbb.trans b2⟩
        rw [hsu]; exact o2
      clear hc hsu hv hO hbk HM
      go_wp2_with (first
        | (go_at_call 159; refine (unhide K).mono ?_; rintro e w' ⟨g, rfl, a2, c2, w2, r2, hO2, hb2⟩; have R2 := hide r2; clear r2 K)
        | (at_builtin; refine wpList_append_run 50 rfl _ _ rfl _ _ _ rfl rfl (unhide R2) ?_; clear R2))
      exact ⟨⟨k + 1, m + wd, a2, c2, by omega, by go_num, rfl, hO2, hb2⟩, by simp [intOf]; omega⟩
    · obtain rfl : k = len := by omega
      have e : ns.take k = ns := List.take_of_length_le (by omega)
      have HR : Hid (Own w.heap.size wr a1 M c1 (numsB wd ns)) := by
        have h1 := hO.out.1
        have h2 := hO.out.2
        rw [← HM.out] at h1
        subst h1
        rw [e] at h2
        exact h2
      obtain rfl : m = M := hO.out.1.trans HM.out.symm
      go_wp2
      go_ret
      exact ⟨a1, c1, rfl, HR, hbk.out⟩

end Go.Proofs.YtadnlljknocbbaaGreatDoor

/- The contracts of the document's inside and Get. -/
namespace Go.Proofs.YtadnlljknocbbaaGreatDoor
open Go.RowKit Go.Shelf
set_option linter.unusedVariables false


set_option maxHeartbeats 1000000 in
theorem inside_any (a : Option Addr) (len cap : Nat) (at' n : Int) (w : World) (hl : len ≤ 140737488351232) (ha : at' ≤ 9223372036854775807) :
    Calls Tryz.prog 161 #[.slice a len cap, .int .i64 at', .int .i64 n] w fun e w' => e = .returned (.bool (partErr len at' n == 0)) ∧ w = w' := by
  by_cases hA : at' < 0
  · have hp : (partErr len at' n == 0) = false := by rcases partErr_cases len at' n with h | h | h | h <;> simp <;> omega
    have d1 : decide (0 ≤ at') = false := by simp; omega
    rw [hp]
    clear hp
    go_enter Tryz.func161, Tryz.ntmps161
    go_wp2
    go_ret
    exact ⟨rfl, rfl⟩
  have d1 : decide (0 ≤ at') = true := by simp; omega
  by_cases hN : n < 0
  · have hp : (partErr len at' n == 0) = false := by rcases partErr_cases len at' n with h | h | h | h <;> simp <;> omega
    have d2 : decide (0 ≤ n) = false := by simp; omega
    rw [hp]
    clear hp
    go_enter Tryz.func161, Tryz.ntmps161
    go_wp2
    go_ret
    exact ⟨rfl, rfl⟩
  have d2 : decide (0 ≤ n) = true := by simp; omega
  by_cases hL : (len : Int) < at'
  · have hp : (partErr len at' n == 0) = false := by rcases partErr_cases len at' n with h | h | h | h <;> simp <;> omega
    have d3 : decide (at' ≤ (len : Int)) = false := by simp; omega
    rw [hp]
    clear hp
    go_enter Tryz.func161, Tryz.ntmps161
    go_wp2
    go_ret
    exact ⟨rfl, rfl⟩
  have d3 : decide (at' ≤ (len : Int)) = true := by simp; omega
  by_cases hF : (len : Int) - at' < n
  · have hp : (partErr len at' n == 0) = false := by rcases partErr_cases len at' n with h | h | h | h <;> simp <;> omega
    have d4 : decide (n ≤ (len : Int) - at') = false := by simp; omega
    rw [hp]
    clear hp
    go_enter Tryz.func161, Tryz.ntmps161
    go_wp2
    go_ret
    exact ⟨rfl, rfl⟩
  · have hp : (partErr len at' n == 0) = true := by rcases partErr_cases len at' n with h | h | h | h <;> simp <;> omega
    have d4 : decide (n ≤ (len : Int) - at') = true := by simp; omega
    rw [hp]
    clear hp
    go_enter Tryz.func161, Tryz.ntmps161
    go_wp2
    go_ret
    exact ⟨rfl, rfl⟩

set_option maxHeartbeats 1000000 in
theorem refGet_err (a : Option Addr) (len cap : Nat) (at' n : Int) (w : World) (hl : len ≤ 140737488351232) (ha : at' ≤ 9223372036854775807) (he : numErr len at' n ≠ 0) :
    Calls Tryz.prog 139 #[.slice a len cap, .int .i64 at', .int .i64 n] w fun e w' => e = .returned (.tuple #[.int .i64 0, .int .i64 (numErr len at' n)]) ∧ w = w' := by
  rcases numErr_info len at' n with ⟨h1, h2, h4, h⟩ | ⟨hn, h⟩
  · have e1 : (n != 1) = true := by simpa using h1
    have e2 : (n != 2) = true := by simpa using h2
    have e4 : (n != 4) = true := by simpa using h4
    rw [h]
    clear h he
    go_enter Tryz.func139, Tryz.ntmps139
    go_wp2_with fail
    go_ret2
    exact ⟨rfl, rfl⟩
  · have h2 : numErr len at' n = 2 := by rcases numErr_cases len at' n with h' | h' | h' <;> rcases partErr_cases len at' n with g | g | g | g <;> omega
    have hin : ∀ w, Calls Tryz.prog 161 #[.slice a len cap, .int .i64 at', .int .i64 n] w fun e w' => e = .returned (.bool false) ∧ w = w' := by
      intro w
      refine (inside_any _ len cap at' n w hl ha).mono ?_
      rintro e w' ⟨rfl, rfl⟩
      exact ⟨by rw [← h, h2]; rfl, rfl⟩
    rw [h2]
    have HI := hide hin
    clear hin h he h2
    have ht : (n != 1) = false ∨ ((n != 1) = true ∧ (n != 2) = false) ∨ ((n != 1) = true ∧ (n != 2) = true ∧ (n != 4) = false) := by
      rcases hn with rfl | rfl | rfl <;> decide
    clear hn
    rcases ht with e1 | ⟨e1, e2⟩ | ⟨e1, e2, e3⟩
    all_goals
      go_enter Tryz.func139, Tryz.ntmps139
      go_wp2_with (go_at_call 161; refine (unhide HI _).mono ?_; rintro e w' ⟨rfl, rfl⟩)
      go_ret2
      exact ⟨rfl, rfl⟩

set_option maxRecDepth 100000 in
set_option maxHeartbeats 1000000 in
theorem refGet_ok (b off len cap wd at0 : Nat) (zs : List Int) (w : World) (hr : Row w.heap.size w (some ⟨b, off, none⟩) len cap zs) (hw : wd = 1 ∨ wd = 2 ∨ wd = 4) (hat : at0 + wd ≤ len) :
    Calls Tryz.prog 139 #[.slice (some ⟨b, off, none⟩) len cap, .int .i64 (at0 : Int), .int .i64 (wd : Int)] w fun e w' =>
      e = .returned (.tuple #[.int .i64 (num ((zs.drop at0).take wd)), .int .i64 0]) ∧ w = w' := by
  obtain ⟨hlen, hlc, hcm, hby, hcell⟩ := hr
  obtain ⟨b', off', e, hbl, hcs⟩ := hcell (by omega)
  cases e
  obtain ⟨pt, hpt⟩ : ∃ pt, (zs.drop at0).take wd = pt := ⟨_, rfl⟩
  have hpl : pt.length = wd := by rw [← hpt]; simp; omega
  have hpg : ∀ j, j < wd → pt[j]?.getD 0 = zs[at0 + j]?.getD 0 := by
    intro j hj; rw [← hpt, List.getElem?_take_of_lt hj, List.getElem?_drop]
  have hpb : ∀ z ∈ pt, 0 ≤ z ∧ z ≤ 255 := by
    intro z hz; rw [← hpt] at hz; exact hby z (List.mem_of_mem_drop (List.mem_of_mem_take hz))
  have hin : ∀ w, Calls Tryz.prog 161 #[.slice (some ⟨b, off, none⟩) len cap, .int .i64 (at0 : Int), .int .i64 (wd : Int)] w fun e w' => e = .returned (.bool true) ∧ w = w' := by
    intro w
    refine (inside_any _ len cap at0 wd w (by omega) (by omega)).mono ?_
    rintro e w' ⟨rfl, rfl⟩
    exact ⟨by rw [partErr_ok (by omega) (by omega) (by omega)]; rfl, rfl⟩
  have HB := hide hpb
  have HG := hide hpg
  have HC := hide hcs
  have HI := hide hin
  have HN := hide (num_drop pt)
  rw [hpt]
  clear hpt hby hcell hcs hpg hpb hin
  have hn1 : num (pt.drop wd) = 0 := by rw [List.drop_of_length_le (by omega)]; rfl
  have hw4 : wd ≤ 4 := by omega
  have hw1 : 1 ≤ wd := by omega
  have ht := width_tests hw
  clear hw
  rcases ht with e1 | ⟨e1, e2⟩ | ⟨e1, e2, e3⟩
  all_goals
    go_enter Tryz.func139, Tryz.ntmps139
    go_wp2_with (go_at_call 161; refine (unhide HI _).mono ?_; rintro e w' ⟨rfl, rfl⟩)
    go_loop [8, 9] (fun v i => ∃ m : Nat, m ≤ wd ∧ i = .int .i64 ((m : Int) - 1) ∧ v = .int .i64 (num (pt.drop m))) (fun _ i => (intOf i + 1).toNat)
    case atStart => exact ⟨wd, Nat.le_refl _, rfl, by rw [hn1]⟩
    case round =>
      obtain ⟨m, hm, rfl, rfl⟩ := hrel
      by_cases hlt : 0 < m
      · obtain ⟨q, rfl⟩ : ∃ q, m = q + 1 := ⟨m - 1, by omega⟩
        have hb := num_bound (pt.drop (q + 1)) (fun z hz => unhide HB z (List.mem_of_mem_drop hz))
        have hb2 : num (pt.drop (q + 1)) < 16777216 := by
          refine Int.lt_of_lt_of_le hb.2 ?_
          have h3 : (pt.drop (q + 1)).length ≤ 3 := by simp; omega
          have : (256 : Int) ^ (pt.drop (q + 1)).length ≤ 256 ^ 3 := by exact_mod_cast Nat.pow_le_pow_right (by omega) h3
          omega
        have hb1 := hb.1
        have hcq : w.cell? ⟨b, off + (at0 + q), none⟩ = some (.int .u8 (pt[q]?.getD 0)) := by rw [unhide HG q (by omega)]; exact unhide HC _ (by omega)
        have hz := unhide HB (pt[q]?.getD 0) (by rw [List.getElem?_eq_getElem (by omega)]; exact List.getElem_mem _)
        have HS := hide (unhide HN q (by omega))
        have hi : ((q + 1 : Nat) : Int) - 1 = (q : Int) := by omega
        rw [hi]
        clear hb hn1
        go_wp2
        exact ⟨⟨q, by omega, rfl, val_int (by rw [unhide HS]; omega)⟩, by simp [intOf]⟩
      · obtain rfl : m = 0 := by omega
        go_wp2
        go_ret2
        exact ⟨by simp, rfl⟩

/-- **The document's Get.** -/
theorem refGet_any (a : Option Addr) (len cap : Nat) (zs : List Int) (at' n : Int) (w : World) (hr : Row w.heap.size w a len cap zs) (ha : at' ≤ 9223372036854775807) :
    Calls Tryz.prog 139 #[.slice a len cap, .int .i64 at', .int .i64 n] w fun e w' => e = .returned (.tuple #[.int .i64 (getVal zs at' n), .int .i64 (numErr len at' n)]) ∧ w = w' := by
  have hlen := hr.1
  have hcap := hr.2.2.1
  have hlc := hr.2.1
  by_cases h : numErr len at' n = 0
  · rcases numErr_cases len at' n with h' | h' | ⟨_, at0, wd, rfl, rfl, hw, hat⟩
    · omega
    · omega
    · obtain ⟨b, off, rfl, _, _⟩ := hr.2.2.2.2 (by omega)
      refine (refGet_ok b off len cap wd at0 zs w hr hw hat).mono ?_
      rintro e w' ⟨rfl, hb⟩
      exact ⟨ret_two (by unfold getVal; rw [hlen, h, if_pos rfl, Int.toNat_natCast, Int.toNat_natCast]) h.symm, hb⟩
  · refine (refGet_err a len cap at' n w (by omega) ha h).mono ?_
    rintro e w' ⟨rfl, rfl⟩
    exact ⟨ret_two (by unfold getVal; rw [hlen, if_neg h]) rfl, rfl⟩

end Go.Proofs.YtadnlljknocbbaaGreatDoor

/- Contracts of skerryref06.put, padded, fits and num, of codec.get and of bytes.Equal. -/
namespace Go.Proofs.YtadnlljknocbbaaGreatDoor
open Go.RowKit Go.Shelf
set_option linter.unusedVariables false
set_option maxRecDepth 100000

theorem strOfNums_inj {xs ys : List Int} (hx : ∀ z ∈ xs, 0 ≤ z ∧ z ≤ 255) (hy : ∀ z ∈ ys, 0 ≤ z ∧ z ≤ 255) (h : strOfNums xs = strOfNums ys) : xs = ys := by
  have h2 := congrArg byts h
  have back : ∀ zs : List Int, (∀ z ∈ zs, 0 ≤ z ∧ z ≤ 255) → byts (strOfNums zs) = zs := by
    intro zs hz
    apply List.ext_getElem
    · simp [byts, strOfNums]
    · intro i h1 h2
      have := hz zs[i] (List.getElem_mem _)
      simp [byts, strOfNums]
      omega
  rwa [back xs hx, back ys hy] at h2

theorem str_eq_decide {xs ys : List Int} (hx : ∀ z ∈ xs, 0 ≤ z ∧ z ≤ 255) (hy : ∀ z ∈ ys, 0 ≤ z ∧ z ≤ 255) : ((strOfNums xs).toList == (strOfNums ys).toList) = decide (xs = ys) := by
  by_cases h : xs = ys
  · subst h; simp
  · have h2 : (strOfNums xs).toList ≠ (strOfNums ys).toList := fun e => by
      rw [ByteArray.toList_eq, ByteArray.toList_eq] at e
      exact h (strOfNums_inj hx hy (ByteArray.ext (Array.toList_inj.1 e)))
    rw [decide_eq_false h]
    exact beq_false_of_ne h2

theorem cell_one (w : World) (z : Int) : (w.alloc (.cells #[.int .u8 z] 5)).cell? ⟨w.heap.size, 0, none⟩ = some (.int .u8 z) := by
  have h := World.alloc_heap_new w (.cells #[.int .u8 z] 5)
  simp only [World.cell?, h]
  rfl

set_option maxHeartbeats 1000000 in
theorem equal_any (a1 a2 : Option Addr) (l1 c1 l2 c2 : Nat) (xs ys : List Int) (w : World) (h1 : Has w a1 l1 xs) (h2 : Has w a2 l2 ys) (hx : ∀ z ∈ xs, 0 ≤ z ∧ z ≤ 255) (hy : ∀ z ∈ ys, 0 ≤ z ∧ z ≤ 255) :
    Calls Tryz.prog 143 #[.slice a1 l1 c1, .slice a2 l2 c2] w fun e w' => e = .returned (.bool (decide (xs = ys))) ∧ w = w' := by
  have e1 := h1.conv c1
  have e2 := h2.conv c2
  have e3 := hide (str_eq_decide hx hy)
  clear h1 h2 hx hy
  go_enter Tryz.func143, Tryz.ntmps143
  go_wp2
  go_ret
  exact ⟨ret_bool e3.out, rfl⟩

set_option maxHeartbeats 1000000 in
theorem get_drop (a : Option Addr) (len cap : Nat) (zs : List Int) (at' n : Int) (w : World) (hr : Row w.heap.size w a len cap zs) (ha : at' ≤ 9223372036854775807) :
    Calls Tryz.prog 144 #[.slice a len cap, .int .i64 at', .int .i64 n] w fun e w' => e = .returned (.int .i64 (getVal zs at' n)) ∧ Below w.heap.size w w' := by
  have K := hide (get_any a len cap zs at' n w hr ha)
  generalize getVal zs at' n = v at *
  generalize numErr len at' n = q at *
  clear hr ha
  go_enter Tryz.func144, Tryz.ntmps144
  go_wp2_with (go_at_call 162; refine (unhide K).mono ?_; rintro e w' ⟨rfl, hb⟩)
  go_ret
  exact ⟨rfl, hb⟩

set_option maxHeartbeats 1000000 in
theorem num_drop0 (a : Option Addr) (len cap : Nat) (zs : List Int) (at' n : Int) (w : World) (hr : Row w.heap.size w a len cap zs) (ha : at' ≤ 9223372036854775807) :
    Calls Tryz.prog 118 #[.slice a len cap, .int .i64 at', .int .i64 n] w fun e w' => e = .returned (.int .i64 (getVal zs at' n)) ∧ w = w' := by
  have K := hide (refGet_any a len cap zs at' n w hr ha)
  generalize getVal zs at' n = v at *
  generalize numErr len at' n = q at *
  clear hr ha
  go_enter Tryz.func118, Tryz.ntmps118
  go_wp2_with (go_at_call 139; refine (unhide K).mono ?_; rintro e w' ⟨rfl, rfl⟩)
  go_ret
  exact ⟨rfl, rfl⟩

set_option maxHeartbeats 1000000 in
theorem fits_any (v : Int) (wd : Nat) (w : World) (hw : wd ≤ 4) :
    Calls Tryz.prog 89 #[.int .i64 v, .int .i64 (wd : Int)] w fun e w' => e = .returned (.bool (fitB wd [v])) ∧ w = w' := by
  go_enter Tryz.func89, Tryz.ntmps89
  go_wp2
  go_loop [5, 6] (fun m i => ∃ (k : Nat) (M : Int), k ≤ wd ∧ i = .int .i64 (k : Int) ∧ m = .int .i64 M ∧ 0 ≤ M ∧ M ≤ 4294967296 ∧ Hid (M = 256 ^ k)) (fun _ i => wd - (intOf i).toNat)
  case atStart => exact ⟨0, 1, Nat.zero_le _, rfl, rfl, by omega, by omega, rfl⟩
  case round =>
    obtain ⟨k, M, hk, rfl, rfl, hM0, hM1, hM⟩ := hrel
    by_cases hlt : k < wd
    · have hM2 : M ≤ 16777216 := by
        rw [hM.out]
        have : k = 0 ∨ k = 1 ∨ k = 2 ∨ k = 3 := by omega
        rcases this with rfl | rfl | rfl | rfl <;> omega
      have hS : Hid (M * 256 = 256 ^ (k + 1)) := by rw [hM.out]; exact (Int.pow_succ _ _).symm
      clear hM
      go_wp2
      exact ⟨⟨k + 1, M * 256, by omega, by go_num, by go_num, by omega, by omega, hS⟩, by simp [intOf]; omega⟩
    · obtain rfl : k = wd := by omega
      have HF : Hid (fitB k [v] = (decide (0 ≤ v) && decide (v < M))) := by
        show fitB k [v] = _
        rw [hM.out]
        simp [fitB]
      clear hM
      by_cases h1 : 0 ≤ v
      · have hd : decide (v ≥ 0) = true := by simpa using h1
        by_cases h2 : v < M
        · go_wp2
          go_ret
          exact ⟨ret_bool (by rw [HF.out]; simp [h1, h2]), rfl⟩
        · go_wp2
          go_ret
          exact ⟨ret_bool (by rw [HF.out]; simp; omega), rfl⟩
      · have hd : decide (v ≥ 0) = false := by simpa using h1
        go_wp2
        go_ret
        exact ⟨ret_bool (by rw [HF.out]; simp; omega), rfl⟩

/-- A slice that may be grown: the start of a row of the call's own, or one with no room behind it. -/
def Src (B : Nat) (w : World) (a : Option Addr) (n c : Nat) (xs : List Int) : Prop := Own B w a n c xs ∨ (Has w a n xs ∧ c = n ∧ 0 < n)

theorem Src.has {B : Nat} {w : World} {a : Option Addr} {n c : Nat} {xs : List Int} (h : Src B w a n c xs) : Has w a n xs := by
  rcases h with h | h
  · exact h.has
  · exact h.1

theorem Src.below {B n : Nat} {w w' : World} {a : Option Addr} {l c : Nat} {xs : List Int} (h : Src B w a l c xs) (hb : Below n w w') (hn : w.heap.size ≤ n) : Src B w' a l c xs := by
  rcases h with h | h
  · exact .inl (h.below hb hn)
  · exact .inr ⟨h.1.later (hb.mono hn), h.2⟩

theorem append_src {B : Nat} {w : World} {a : Option Addr} {n c : Nat} {xs : List Int} (h : Src B w a n c xs) (hB : B ≤ w.heap.size) (nb : Nat) (z : Int) (hz : w.cell? ⟨nb, 0, none⟩ = some (.int .u8 z)) (hn : n + 1 ≤ 140737488355328) :
    ∃ a' c' w', (∀ ty, (Builtin.append_ #[50, 50] ty #[.slice a n c, .slice (some ⟨nb, 0, none⟩) 1 1]).run Tryz.prog w = .ok (.slice a' (n + 1) c') w') ∧ Own B w' a' (n + 1) c' (xs ++ [z]) ∧ Below B w w' := by
  have h1 : Has w (some ⟨nb, 0, none⟩) 1 [z] := ⟨rfl, fun _ => ⟨nb, 0, rfl, fun j hj => by
    obtain rfl : j = 0 := by omega
    simpa using hz⟩⟩
  rcases h with h | ⟨h, rfl, hp⟩
  · obtain ⟨a', c', w', r, o, _, b⟩ := run_append_bytes h hB 1 h1 hn
    exact ⟨a', c', w', r, o, b⟩
  · obtain ⟨i0, hi, hz0, hz1, hz2⟩ := info_parts info5
    obtain ⟨b, off, rfl, hc⟩ := h.2 hp
    have hlen := h.1
    have holds : ∀ (j : Nat) (u : Value), (xs.map (Value.int .u8))[j]? = some u → w.cell? ((⟨b, off, none⟩ : Addr).add j) = some u := by
      intro j u hj
      have hjl : j < xs.length := by have := (List.getElem?_eq_some_iff.1 hj).1; simpa using this
      rw [World.add_zero_spot, hc j (by omega)]
      rw [List.getElem?_map, List.getElem?_eq_getElem hjl] at hj
      rw [List.getElem?_eq_getElem hjl]
      simpa using hj
    have hnews : ∀ (j : Nat) (u : Value), [Value.int .u8 z][j]? = some u → w.cell? ((⟨nb, 0, none⟩ : Addr).add j) = some u := by
      intro j u hj
      cases j with
      | zero => simp at hj; subst hj; simpa [Addr.add] using hz
      | succ j => simp at hj
    have hg : ∀ ty, ∃ v w', (Builtin.append_ #[50, 50] ty #[.slice (some ⟨b, off, none⟩) c c, .slice (some ⟨nb, 0, none⟩) 1 1]).run Tryz.prog w = .ok v w' ∧ w'.ownsRow w.heap.size 5 1 v (c + 1) (xs.map (Value.int .u8) ++ [Value.int .u8 z]) ∧ w.grownBy w' none := fun ty =>
      run_append_arg_grows (P := Tryz.prog) w 50 ty 5 i0 (.int .u8 0) 1 1 Tryz.underlying50 hi hz0 hz1 hz2 rfl (by decide) ⟨b, off, none⟩ c c (xs.map (Value.int .u8)) (by simp [hlen]) holds ⟨nb, 0, none⟩ 1 1 [Value.int .u8 z] rfl hnews (by omega) (by unfold maxLen; omega) (by omega)
    have hty : ∀ ty, (Builtin.append_ #[50, 50] ty #[.slice (some ⟨b, off, none⟩) c c, .slice (some ⟨nb, 0, none⟩) 1 1]).run Tryz.prog w = (Builtin.append_ #[50, 50] 0 #[.slice (some ⟨b, off, none⟩) c c, .slice (some ⟨nb, 0, none⟩) 1 1]).run Tryz.prog w := fun ty => rfl
    obtain ⟨v, w', hr, ho, hgr⟩ := hg 0
    have ho' : w'.ownsRow w.heap.size 5 1 v (c + 1) ((xs ++ [z]).map (Value.int .u8)) := by simpa using ho
    obtain ⟨a', c', rfl, hO⟩ := Own.of_owns ho'
    exact ⟨a', c', w', fun ty => (hty ty).trans hr, hO.base hB, ⟨hgr.os, hgr.tape, hgr.output, hgr.size, fun k hk => hgr.block k (by omega) (by simp)⟩⟩

theorem digits_zero_iff (v : Int) : digits 0 v = [] := rfl

theorem digits_next (wd k : Nat) (v : Int) (h0 : 0 ≤ v) (hk : k < wd) : digits (k + 1) v = digits k v ++ [v / 256 ^ k % 256] := digits_succ k v

set_option maxHeartbeats 2000000 in
/-- **skerryref06.put**. -/
theorem refput_any (B : Nat) (a : Option Addr) (n c : Nat) (xs : List Int) (wd : Nat) (v : Int) (w : World) (h : Src B w a n c xs) (hB : B ≤ w.heap.size) (hw : 1 ≤ wd ∧ wd ≤ 4) (h0 : 0 ≤ v) (h1 : v ≤ 4294967296) (hn : n ≤ 140737488351232) :
    Calls Tryz.prog 90 #[.slice a n c, .int .i64 (wd : Int), .int .i64 v] w fun e w' => ∃ a' c', e = .returned (.slice a' (n + wd) c') ∧ Hid (Own B w' a' (n + wd) c' (xs ++ digits wd v)) ∧ Below B w w' := by
  have H := hide h
  have HB := hide hB
  clear h hB
  go_enter Tryz.func90, Tryz.ntmps90
  go_wp2
  go_loopw [0, 2, 7] (fun s x i wr => ∃ (k m : Nat) (q : Int) (a : Option Addr) (c : Nat), k ≤ wd ∧ i = .int .i64 (k : Int) ∧ s = .slice a m c ∧ x = .int .i64 q ∧ 0 ≤ q ∧ q ≤ 4294967296 ∧ Hid (m = n + k ∧ q = v / 256 ^ k) ∧ Hid (Src B wr a m c (xs ++ digits k v) ∧ (0 < k → Own B wr a m c (xs ++ digits k v))) ∧ Hid (Below B w wr)) (fun _ _ i _ => wd - (intOf i).toNat)
  case atStart => exact ⟨0, n, v, a, c, Nat.zero_le _, rfl, rfl, rfl, h0, h1, ⟨rfl, by simp⟩, ⟨by rw [digits_zero_iff, List.append_nil]; exact H.out, fun h => by omega⟩, Below.refl _ _⟩
  case round =>
    obtain ⟨k, m, q, a1, c1, hk, rfl, rfl, rfl, hq0, hq1, hmq, hS, hb⟩ := hrel
    by_cases hlt : k < wd
    · have hbA : Below wr.heap.size wr (wr.alloc (.cells #[.int .u8 (q % 256)] 5)) := (Below.refl _ wr).alloc (Nat.le_refl _) _
      have hcell : (wr.alloc (.cells #[.int .u8 (q % 256)] 5)).cell? ⟨wr.heap.size, 0, none⟩ = some (.int .u8 (q % 256)) := cell_one wr _
      have hBw : B ≤ wr.heap.size := Nat.le_trans HB.out hb.out.size
      obtain ⟨a2, c2, w2, r2, o2, b2⟩ := append_src (hS.out.1.below hbA (Nat.le_refl _)) (Nat.le_trans hBw hbA.size) wr.heap.size (q % 256) hcell (by have := hmq.out.1; omega)
      have HN : Hid (m + 1 = n + (k + 1) ∧ q / 256 = v / 256 ^ (k + 1)) := ⟨by have := hmq.out.1; omega, by rw [hmq.out.2, Int.ediv_ediv_of_nonneg (Int.le_of_lt (Int.pow_pos (by omega))), Int.pow_succ]⟩
      have HO : Hid (Own B w2 a2 (m + 1) c2 (xs ++ digits (k + 1) v)) := by
        rw [digits_succ, ← List.append_assoc, ← hmq.out.2]
        exact o2
      have HBn : Hid (Below B w w2) := hb.out.trans ((hbA.mono hBw).trans b2)
      have R2 := hide r2
      have hm1 : q % 256 % 256 = q % 256 := by omega
      have hq2 : 0 ≤ q % 256 ∧ q % 256 ≤ 255 := by omega
      clear r2 o2 b2 hcell hbA hBw hS hb hmq
      go_wp2_with (at_builtin; refine wpList_append_run 50 rfl _ _ rfl _ _ _ rfl rfl (unhide R2) ?_; clear R2)
      exact ⟨⟨k + 1, m + 1, q / 256, a2, c2, by omega, by go_num, rfl, rfl, by omega, by omega, HN, ⟨.inl HO, fun _ => HO⟩, HBn⟩, by simp [intOf]; omega⟩
    · obtain rfl : k = wd := by omega
      have HR : Hid (Own B wr a1 (n + k) c1 (xs ++ digits k v)) := by
        have := hS.out.2 (by omega)
        rw [hmq.out.1] at this
        exact this
      obtain rfl : m = n + k := hmq.out.1
      clear hS hmq
      go_wp2
      go_ret
      exact ⟨a1, c1, rfl, HR, hb.out⟩

theorem layB_succ (xs : List Int) (k : Nat) : xs ++ List.replicate (k + 1) 0 = (xs ++ List.replicate k 0) ++ [(0 : Int)] := by
  rw [List.replicate_succ', List.append_assoc]

set_option maxHeartbeats 2000000 in
/-- **skerryref06.padded**, where there is room. -/
theorem padded_any (B : Nat) (a : Option Addr) (n c size : Nat) (xs : List Int) (w : World) (h : Own B w a n c xs) (hB : B ≤ w.heap.size) (hn : n ≤ size) (hs : size ≤ 65536) :
    Calls Tryz.prog 92 #[.slice a n c, .int .i64 (size : Int)] w fun e w' => ∃ a' c', e = .returned (.slice a' size c') ∧ Hid (Own B w' a' size c' (layB size xs)) ∧ Below B w w' := by
  have H := hide h
  have HB := hide hB
  have hlen := h.1
  clear h hB
  go_enter Tryz.func92, Tryz.ntmps92
  go_wp2
  go_loopw [0] (fun s wr => ∃ (k m : Nat) (a : Option Addr) (c : Nat), s = .slice a m c ∧ m ≤ size ∧ Hid (m = n + k ∧ Own B wr a m c (xs ++ List.replicate k 0)) ∧ Hid (Below B w wr)) (fun s _ => match s with | .slice _ m _ => size - m | _ => 0)
  case atStart => exact ⟨0, n, a, c, rfl, hn, ⟨rfl, by simpa using H.out⟩, Below.refl _ _⟩
  case round =>
    obtain ⟨k, m, a1, c1, rfl, hm, hO, hb⟩ := hrel
    by_cases hlt : m < size
    · have hbA : Below wr.heap.size wr (wr.alloc (.cells #[.int .u8 0] 5)) := (Below.refl _ wr).alloc (Nat.le_refl _) _
      have hcell : (wr.alloc (.cells #[.int .u8 0] 5)).cell? ⟨wr.heap.size, 0, none⟩ = some (.int .u8 0) := cell_one wr _
      have hBw : B ≤ wr.heap.size := Nat.le_trans HB.out hb.out.size
      obtain ⟨a2, c2, w2, r2, o2, b2⟩ := append_src (Src.below (B := B) (Or.inl hO.out.2) hbA (Nat.le_refl _)) (Nat.le_trans hBw hbA.size) wr.heap.size 0 hcell (by omega)
      have HO : Hid (m + 1 = n + (k + 1) ∧ Own B w2 a2 (m + 1) c2 (xs ++ List.replicate (k + 1) 0)) := ⟨by have := hO.out.1; omega, by rw [layB_succ]; exact o2⟩
      have HBn : Hid (Below B w w2) := hb.out.trans ((hbA.mono hBw).trans b2)
      have R2 := hide r2
      clear r2 o2 b2 hcell hbA hBw hO hb
      go_wp2_with (at_builtin; refine wpList_append_run 50 rfl _ _ rfl _ _ _ rfl rfl (unhide R2) ?_; clear R2)
      exact ⟨⟨k + 1, m + 1, a2, c2, rfl, by omega, HO, HBn⟩, by simp; omega⟩
    · obtain rfl : m = size := by omega
      have HR : Hid (Own B wr a1 m c1 (layB m xs)) := by
        have h1 := hO.out.1
        have h2 := hO.out.2
        obtain rfl : k = m - xs.length := by omega
        exact h2
      clear hO
      go_wp2
      go_ret
      exact ⟨a1, c1, rfl, HR, hb.out⟩

end Go.Proofs.YtadnlljknocbbaaGreatDoor

/- Two facts on numbers that fit, and on put. -/
namespace Go.Proofs.YtadnlljknocbbaaGreatDoor
open Go.RowKit Go.Shelf
set_option linter.unusedVariables false

theorem fit_bd {wd : Nat} {ns : List Int} (h : fitB wd ns = true) (hw : wd ≤ 4) (v : Int) (hv : v ∈ ns) : 0 ≤ v ∧ v ≤ 4294967296 := by
  have := fitB_iff.1 h v hv
  have h1 : (256 : Int) ^ wd ≤ 4294967296 := by
    have : wd = 0 ∨ wd = 1 ∨ wd = 2 ∨ wd = 3 ∨ wd = 4 := by omega
    rcases this with rfl | rfl | rfl | rfl | rfl <;> decide
  omega

theorem refput_m (B : Nat) (a : Option Addr) (n c : Nat) (xs : List Int) (wd : Nat) (v : Int) (w : World) (m : Nat) (hm : m = n + wd) (h : Own B w a n c xs) (hB : B ≤ w.heap.size) (hw : 1 ≤ wd ∧ wd ≤ 4) (h0 : 0 ≤ v ∧ v ≤ 4294967296) (hn : n ≤ 100000) :
    Calls Tryz.prog 90 #[.slice a n c, .int .i64 (wd : Int), .int .i64 v] w fun e w' => ∃ a' c', e = .returned (.slice a' m c') ∧ Hid (Own B w' a' m c' (xs ++ digits wd v)) ∧ Below B w w' := by
  subst hm
  exact refput_any B a n c xs wd v w (.inl h) hB hw h0.1 h0.2 (by omega)

end Go.Proofs.YtadnlljknocbbaaGreatDoor

