/- Contract of codec.numbers. -/
import Derived.Test.YtmdkcoenjadieaaCFit
import Derived.Test.YtmdkcoenjadieaaCLay
import Derived.Test.YtmdkcoenjadieaaGPutAll
namespace Go.Proofs.Ytmdkcoenjadieaa
open Go.RowKit Go.Shelf
set_option linter.unusedVariables false

/-- The bytes of numbers, wd bytes each. -/
def numsB (wd : Nat) (ns : List Int) : List Int := (ns.map (digits wd)).flatten

theorem numsB_succ (wd : Nat) (ns : List Int) (k : Nat) (hk : k < ns.length) : numsB wd (ns.take (k + 1)) = numsB wd (ns.take k) ++ digits wd (ns[k]?.getD 0) := by
  rw [numsB, List.take_succ_eq_append_getElem hk, List.getElem?_eq_getElem hk, List.map_append, List.flatten_append]
  simp only [numsB, List.map_cons, List.map_nil, List.flatten_cons, List.flatten_nil, List.append_nil, Option.getD_some]

theorem length_numsB (wd : Nat) (ns : List Int) : (numsB wd ns).length = wd * ns.length := by
  induction ns with
  | nil => rfl
  | cons x xs ih =>
    have : numsB wd (x :: xs) = digits wd x ++ numsB wd xs := by simp [numsB]
    rw [this, List.length_append, length_digits, ih, List.length_cons, Nat.mul_succ]; omega

theorem numsB_byte (wd : Nat) (ns : List Int) : ∀ z ∈ numsB wd ns, 0 ≤ z ∧ z ≤ 255 := by
  intro z hz
  simp only [numsB, List.mem_flatten, List.mem_map] at hz
  obtain ⟨l, ⟨v, _, rfl⟩, hz⟩ := hz
  exact digits_byte wd v z hz

set_option maxRecDepth 100000 in
set_option maxHeartbeats 2000000 in
/-- **codec.numbers**, of numbers that fit. -/
theorem numbers_any (wd : Nat) (hw : wd = 1 ∨ wd = 2 ∨ wd = 4) (a : Option Addr) (len cap : Nat) (ns : List Int) (w : World) (h : IHas w a len ns) (hl : len ≤ 65536) (hf : fitB wd ns = true) (M : Nat) (hM : M = wd * len) :
    Calls Try.prog 19 #[.int .i64 (wd : Int), .slice a len cap] w fun e w' => ∃ a' c', e = .returned (.slice a' M c') ∧ Hid (Own w.heap.size w' a' M c' (numsB wd ns)) ∧ Below w.heap.size w w' := by
  have hM1 : M ≤ 262144 := by rcases hw with rfl | rfl | rfl <;> omega
  have hMi : (wd : Int) * (len : Int) = (M : Int) := by rw [hM]; simp
  obtain ⟨i0, hi, hz0, hz1, hz2⟩ := info_parts info5
  have hmk0 : ∀ w : World, (Instr.makeSlice 27 (.int .i64 0) (.int .i64 (M : Int))).run Try.prog w = .ok (.slice (some ⟨w.heap.size, 0, none⟩) 0 M) (w.alloc (.cells (madeCells #[.int .u8 0] M) 5)) := by
    intro w
    have := run_make (P := Try.prog) w 27 5 i0 (.int .u8 0) Try.underlying27 hi hz0 .i64 .i64 0 (M : Int) (by omega) (by omega) (by rw [hz2]; omega) (by omega)
    rw [this, hz1, show ((M : Nat) : Int).toNat = M by omega, Nat.mul_one]
    rfl
  have hmk := run_make_row' (P := Try.prog) 27 5 (.int .u8 0) 1 Try.underlying27 info5 rfl .i64 .i64 wd (by omega) (by omega)
  have hb0 : Below w.heap.size w (w.alloc (.cells (madeCells #[.int .u8 0] M) 5)) := (Below.refl _ w).alloc (Nat.le_refl _) _
  have HO : Hid (Own w.heap.size (w.alloc (.cells (madeCells #[.int .u8 0] M) 5)) (some ⟨w.heap.size, 0, none⟩) 0 M (numsB wd (ns.take 0))) :=
    ⟨rfl, by omega, by unfold maxLen; omega, .inr ⟨w.heap.size, _, rfl, Nat.le_refl _, World.alloc_heap_new w _, by rw [← Array.length_toList, toList_madeCells_one, List.length_replicate], by simp [numsB]⟩⟩
  have H := hide h
  have hlen := h.1
  have HF := hide (fitB_iff.1 hf)
  have HM := hide hM
  have HW := hide hw
  have hw4 : wd ≤ 4 := by omega
  clear h hf hi hz0 hz1 hz2 i0 hM hw
  go_enter Try.func19, Try.ntmps19
  go_wp2
  go_loopw [5, 17] (fun out i wr => ∃ (k m : Nat) (a : Option Addr) (c : Nat), k ≤ len ∧ i = .int .i64 (k : Int) ∧ out = .slice a m c ∧ Hid (m = wd * k ∧ Own w.heap.size wr a m c (numsB wd (ns.take k))) ∧ Hid (Below w.heap.size w wr)) (fun _ i _ => len - (intOf i).toNat)
  case atStart => exact ⟨0, 0, _, _, Nat.zero_le _, rfl, rfl, ⟨rfl, HO⟩, hb0⟩
  case round =>
    obtain ⟨k, m, a1, c1, hk, rfl, rfl, hO, hbk⟩ := hrel
    clear HO hmk0 hb0
    by_cases hlt : k < len
    · obtain ⟨b, off, rfl, hc⟩ := (H.out.later hbk.out).2 (by omega)
      have hck := hc k hlt
      have hv := HF.out (ns[k]?.getD 0) (by rw [List.getElem?_eq_getElem (by omega)]; exact List.getElem_mem _)
      have hsu := numsB_succ wd ns k (by omega)
      generalize ns[k]?.getD 0 = z at *
      have K : Hid (Calls Try.prog 30 #[.slice (some ⟨wr.heap.size, 0, none⟩) wd wd, .int .i64 0, .int .i64 (wd : Int), .int .i64 z] (wr.alloc (.cells (madeCells #[.int .u8 0] wd) 5)) fun e w' => ∃ g, e = .returned (.tuple #[.slice (some ⟨g, 0, none⟩) wd wd, .int .i64 0]) ∧ ∃ a2 c2 w2, (∀ ty, (Builtin.append_ #[27, 27] ty #[.slice a1 m c1, .slice (some ⟨g, 0, none⟩) wd wd]).run Try.prog w' = .ok (.slice a2 (m + wd) c2) w2) ∧ Hid (m + wd = wd * (k + 1) ∧ Own w.heap.size w2 a2 (m + wd) c2 (numsB wd (ns.take (k + 1)))) ∧ Hid (Below w.heap.size w w2)) := by
        have hb1 : Below wr.heap.size wr (wr.alloc (.cells (madeCells #[.int .u8 0] wd) 5)) := (Below.refl _ wr).alloc (Nat.le_refl _) _
        have hrow := (make_blockC wr wd).row (len := wd) (by simp) (by omega) (by intro z hz; rw [List.eq_of_mem_replicate hz]; omega)
        have hq : putErr wd 0 (wd : Int) z = 0 := by
          unfold putErr
          have := numErr_ok (len := wd) (at0 := 0) (wd := wd) HW.out (by omega)
          rw [show ((0 : Nat) : Int) = 0 from rfl] at this
          rw [if_pos this, if_neg (by omega), Int.toNat_natCast, if_pos hv.2]
        refine (put_good _ wd wd _ 0 wd z _ hrow (by omega) hq).mono ?_
        rintro e w' ⟨g, rfl, hg, hB, hb⟩
        rw [show (0 : Int).toNat = 0 from rfl, Int.toNat_natCast] at hB
        have hpw : put (List.replicate wd 0) 0 (digits wd z) = digits wd z := by simp [put, length_digits]
        rw [hpw] at hB
        have hbw : Below wr.heap.size wr w' := hb1.trans (hb.mono (by simp))
        have hbb : Below w.heap.size w w' := hbk.out.trans (hbw.mono hbk.out.size)
        have hml : m + wd ≤ 140737488355328 := by
          have := hO.out.1
          have : wd * k ≤ 4 * 65536 := Nat.mul_le_mul hw4 (by omega)
          omega
        obtain ⟨a2, c2, w2, r2, o2, _, b2⟩ := run_append_bytes (hO.out.2.below hbw (Nat.le_refl _)) hbb.size wd (hB.has (len := wd) (length_digits _ _)) hml
        refine ⟨g, rfl, a2, c2, w2, r2, ⟨by rw [hO.out.1, Nat.mul_succ], ?_⟩, hbb.trans b2⟩
        rw [hsu]; exact o2
      clear hc hsu hv hO hbk HM
      go_wp2_with (first
        | (go_at_call 30; refine (unhide K).mono ?_; rintro e w' ⟨g, rfl, a2, c2, w2, r2, hO2, hb2⟩; have R2 := hide r2; clear r2 K)
        | (at_builtin; refine wpList_append_run 27 rfl _ _ rfl _ _ _ rfl rfl (unhide R2) ?_; clear R2))
      exact ⟨⟨k + 1, m + wd, a2, c2, by omega, by go_num, rfl, hO2, hb2⟩, by simp [intOf]; omega⟩
    · obtain rfl : k = len := by omega
      have e : ns.take k = ns := List.take_of_length_le (by omega)
      have HR : Hid (Own w.heap.size wr a1 M c1 (numsB wd ns)) := by
        have h1 := hO.out.1
        have h2 := hO.out.2
        rw [← HM.out] at h1
        subst h1
        rw [e] at h2
        exact h2
      obtain rfl : m = M := hO.out.1.trans HM.out.symm
      go_wp2
      go_ret
      exact ⟨a1, c1, rfl, HR, hbk.out⟩

end Go.Proofs.Ytmdkcoenjadieaa
