/- Joined: CNum, Frame. -/
import Derived.Test.YtmdkcoenjadieaaDoorWCFit
import Derived.Test.YtmdkcoenjadieaaDoorWJ7
import Derived.Test.YtmdkcoenjadieaaDoorWJ23
import Derived.Test.YtmdkcoenjadieaaDoorWGApp
import Derived.Test.YtmdkcoenjadieaaDoorWJ9
/- Contract of codec.numbers. -/
namespace Go.Proofs.YtmdkcoenjadieaaDoor
open Go.RowKit Go.Shelf
set_option linter.unusedVariables false

/-- The bytes of numbers, wd bytes each. -/
def numsB (wd : Nat) (ns : List Int) : List Int := (ns.map (digits wd)).flatten

theorem numsB_succ (wd : Nat) (ns : List Int) (k : Nat) (hk : k < ns.length) : numsB wd (ns.take (k + 1)) = numsB wd (ns.take k) ++ digits wd (ns[k]?.getD 0) := by
  rw [numsB, List.take_succ_eq_append_getElem hk, List.getElem?_eq_getElem hk, List.map_append, List.flatten_append]
  simp only [numsB, List.map_cons, List.map_nil, List.flatten_cons, List.flatten_nil, List.append_nil, Option.getD_some]

theorem length_numsB (wd : Nat) (ns : List Int) : (numsB wd ns).length = wd * ns.length := by
  induction ns with
  | nil => rfl
  | cons x xs ih =>
    have : numsB wd (x :: xs) = digits wd x ++ numsB wd xs := by simp [numsB]
    rw [this, List.length_append, length_digits, ih, List.length_cons, Nat.mul_succ]; omega

theorem numsB_byte (wd : Nat) (ns : List Int) : ∀ z ∈ numsB wd ns, 0 ≤ z ∧ z ≤ 255 := by
  intro z hz
  simp only [numsB, List.mem_flatten, List.mem_map] at hz
  obtain ⟨l, ⟨v, _, rfl⟩, hz⟩ := hz
  exact digits_byte wd v z hz

set_option maxRecDepth 100000 in
set_option maxHeartbeats 2000000 in
/-- **codec.numbers**, of numbers that fit. -/
theorem numbers_any (wd : Nat) (hw : wd = 1 ∨ wd = 2 ∨ wd = 4) (a : Option Addr) (len cap : Nat) (ns : List Int) (w : World) (h : IHas w a len ns) (hl : len ≤ 65536) (hf : fitB wd ns = true) (M : Nat) (hM : M = wd * len) :
    Calls Tryd.prog 37 #[.int .i64 (wd : Int), .slice a len cap] w fun e w' => ∃ a' c', e = .returned (.slice a' M c') ∧ Hid (Own w.heap.size w' a' M c' (numsB wd ns)) ∧ Below w.heap.size w w' := by
  have hM1 : M ≤ 262144 := by rcases hw with rfl | rfl | rfl <;> omega
  have hMi : (wd : Int) * (len : Int) = (M : Int) := by rw [hM]; simp
  obtain ⟨i0, hi, hz0, hz1, hz2⟩ := info_parts info5
  have hmk0 : ∀ w : World, (Instr.makeSlice 26 (.int .i64 0) (.int .i64 (M : Int))).run Tryd.prog w = .ok (.slice (some ⟨w.heap.size, 0, none⟩) 0 M) (w.alloc (.cells (madeCells #[.int .u8 0] M) 5)) := by
    intro w
    have := run_make (P := Tryd.prog) w 26 5 i0 (.int .u8 0) Tryd.underlying26 hi hz0 .i64 .i64 0 (M : Int) (by omega) (by omega) (by rw [hz2]; omega) (by omega)
    rw [this, hz1, show ((M : Nat) : Int).toNat = M by omega, Nat.mul_one]
    rfl
  have hmk := run_make_row' (P := Tryd.prog) 26 5 (.int .u8 0) 1 Tryd.underlying26 info5 rfl .i64 .i64 wd (by omega) (by omega)
  have hb0 : Below w.heap.size w (w.alloc (.cells (madeCells #[.int .u8 0] M) 5)) := (Below.refl _ w).alloc (Nat.le_refl _) _
  have HO : Hid (Own w.heap.size (w.alloc (.cells (madeCells #[.int .u8 0] M) 5)) (some ⟨w.heap.size, 0, none⟩) 0 M (numsB wd (ns.take 0))) :=
    ⟨rfl, by omega, by unfold maxLen; omega, .inr ⟨w.heap.size, _, rfl, Nat.le_refl _, World.alloc_heap_new w _, by rw [← Array.length_toList, toList_madeCells_one, List.length_replicate], by simp [numsB]⟩⟩
  have H := hide h
  have hlen := h.1
  have HF := hide (fitB_iff.1 hf)
  have HM := hide hM
  have HW := hide hw
  have hw4 : wd ≤ 4 := by omega
  clear h hf hi hz0 hz1 hz2 i0 hM hw
  go_enter Tryd.func37, Tryd.ntmps37
  go_wp2
  go_loopw [5, 17] (fun out i wr => ∃ (k m : Nat) (a : Option Addr) (c : Nat), k ≤ len ∧ i = .int .i64 (k : Int) ∧ out = .slice a m c ∧ Hid (m = wd * k ∧ Own w.heap.size wr a m c (numsB wd (ns.take k))) ∧ Hid (Below w.heap.size w wr)) (fun _ i _ => len - (intOf i).toNat)
  case atStart => exact ⟨0, 0, _, _, Nat.zero_le _, rfl, rfl, ⟨rfl, HO⟩, hb0⟩
  case round =>
    obtain ⟨k, m, a1, c1, hk, rfl, rfl, hO, hbk⟩ := hrel
    clear HO hmk0 hb0
    by_cases hlt : k < len
    · obtain ⟨b, off, rfl, hc⟩ := (H.out.later hbk.out).2 (by omega)
      have hck := hc k hlt
      have hv := HF.out (ns[k]?.getD 0) (by rw [List.getElem?_eq_getElem (by omega)]; exact List.getElem_mem _)
      have hsu := numsB_succ wd ns k (by omega)
      generalize ns[k]?.getD 0 = z at *
      have K : Hid (Calls Tryd.prog 71 #[.slice (some ⟨wr.heap.size, 0, none⟩) wd wd, .int .i64 0, .int .i64 (wd : Int), .int .i64 z] (wr.alloc (.cells (madeCells #[.int .u8 0] wd) 5)) fun e w' => ∃ g, e = .returned (.tuple #[.slice (some ⟨g, 0, none⟩) wd wd, .int .i64 0]) ∧ ∃ a2 c2 w2, (∀ ty, (Builtin.append_ #[26, 26] ty #[.slice a1 m c1, .slice (some ⟨g, 0, none⟩) wd wd]).run Tryd.prog w' = .ok (.slice a2 (m + wd) c2) w2) ∧ Hid (m + wd = wd * (k + 1) ∧ Own w.heap.size w2 a2 (m + wd) c2 (numsB wd (ns.take (k + 1)))) ∧ Hid (Below w.heap.size w w2)) := by
        have hb1 : Below wr.heap.size wr (wr.alloc (.cells (madeCells #[.int .u8 0] wd) 5)) := (Below.refl _ wr).alloc (Nat.le_refl _) _
        have hrow := (make_blockC wr wd).row (len := wd) (by simp) (by omega) (by intro z hz; rw [List.eq_of_mem_replicate hz]; omega)
        have hq : putErr wd 0 (wd : Int) z = 0 := by
          unfold putErr
          have := numErr_ok (len := wd) (at0 := 0) (wd := wd) HW.out (by omega)
          rw [show ((0 : Nat) : Int) = 0 from rfl] at this
          rw [if_pos this, if_neg (by omega), Int.toNat_natCast, if_pos hv.2]
        refine (put_good _ wd wd _ 0 wd z _ hrow (by omega) hq).mono ?_
        rintro e w' ⟨g, rfl, hg, hB, hb⟩
        rw [show (0 : Int).toNat = 0 from rfl, Int.toNat_natCast] at hB
        have hpw : put (List.replicate wd 0) 0 (digits wd z) = digits wd z := by simp [put, length_digits]
        rw [hpw] at hB
        have hbw : Below wr.heap.size wr w' := hb1.trans (hb.mono (by simp))
        have hbb : Below w.heap.size w w' := hbk.out.trans (hbw.mono hbk.out.size)
        have hml : m + wd ≤ 140737488355328 := by
          have := hO.out.1
          have : wd * k ≤ 4 * 65536 := Nat.mul_le_mul hw4 (by omega)
          omega
        obtain ⟨a2, c2, w2, r2, o2, _, b2⟩ := run_append_bytes (hO.out.2.below hbw (Nat.le_refl _)) hbb.size wd (hB.has (len := wd) (length_digits _ _)) hml
        refine ⟨g, rfl, a2, c2, w2, r2, ⟨by rw [hO.out.1, Nat.mul_succ], ?_⟩, hbb.trans b2⟩
        rw [hsu]; exact o2
      clear hc hsu hv hO hbk HM
      go_wp2_with (first
        | (go_at_call 71; refine (unhide K).mono ?_; rintro e w' ⟨g, rfl, a2, c2, w2, r2, hO2, hb2⟩; have R2 := hide r2; clear r2 K)
        | (at_builtin; refine wpList_append_run 26 rfl _ _ rfl _ _ _ rfl rfl (unhide R2) ?_; clear R2))
      exact ⟨⟨k + 1, m + wd, a2, c2, by omega, by go_num, rfl, hO2, hb2⟩, by simp [intOf]; omega⟩
    · obtain rfl : k = len := by omega
      have e : ns.take k = ns := List.take_of_length_le (by omega)
      have HR : Hid (Own w.heap.size wr a1 M c1 (numsB wd ns)) := by
        have h1 := hO.out.1
        have h2 := hO.out.2
        rw [← HM.out] at h1
        subst h1
        rw [e] at h2
        exact h2
      obtain rfl : m = M := hO.out.1.trans HM.out.symm
      go_wp2
      go_ret
      exact ⟨a1, c1, rfl, HR, hbk.out⟩

end Go.Proofs.YtmdkcoenjadieaaDoor

/- The contracts of number and Frame. -/
namespace Go.Proofs.YtmdkcoenjadieaaDoor
open Go.RowKit Go.Shelf
set_option linter.unusedVariables false
set_option maxRecDepth 100000

theorem make_block (w : World) (n : Nat) : Block (w.alloc (.cells (madeCells #[.int .u8 0] n) 5)) w.heap.size (List.replicate n 0) := by
  show (w.alloc _).heap[w.heap.size]? = _
  rw [World.alloc_heap_new, List.map_replicate, ← toList_madeCells_one, Array.toArray_toList]

theorem put_whole (n : Nat) (ds : List Int) (h : ds.length = n) : put (List.replicate n 0) 0 ds = ds := by
  simp [put, h]

set_option maxHeartbeats 1000000 in
theorem number_any (wd : Nat) (v : Int) (w : World) (hw : wd = 2 ∨ wd = 4) (h0 : 0 ≤ v) (h1 : v < 256 ^ wd) :
    Calls Tryd.prog 78 #[.int .i64 (wd : Int), .int .i64 v] w fun e w' => ∃ g, e = .returned (.slice (some ⟨g, 0, none⟩) wd wd) ∧ w.heap.size ≤ g ∧ Hid (Block w' g (digits wd v)) ∧ Below w.heap.size w w' := by
  have hmk := run_make_row' (P := Tryd.prog) 26 5 (.int .u8 0) 1 Tryd.underlying26 info5 rfl .i64 .i64 wd (by omega) (by omega)
  have hb0 : Below w.heap.size w (w.alloc (.cells (madeCells #[.int .u8 0] wd) 5)) := (Below.refl _ w).alloc (Nat.le_refl _) _
  have hrow := (make_block w wd).row (len := wd) (by simp) (by omega) (by intro z hz; rw [List.eq_of_mem_replicate hz]; omega)
  have hq : putErr wd 0 (wd : Int) v = 0 := by
    unfold putErr
    have := numErr_ok (len := wd) (at0 := 0) (wd := wd) (by omega) (by omega)
    rw [show ((0 : Nat) : Int) = 0 from rfl] at this
    rw [if_pos this, if_neg (by omega), Int.toNat_natCast, if_pos h1]
  have K : Hid (Calls Tryd.prog 71 #[.slice (some ⟨w.heap.size, 0, none⟩) wd wd, .int .i64 0, .int .i64 (wd : Int), .int .i64 v] (w.alloc (.cells (madeCells #[.int .u8 0] wd) 5)) fun e w' => ∃ g, e = .returned (.tuple #[.slice (some ⟨g, 0, none⟩) wd wd, .int .i64 0]) ∧ w.heap.size ≤ g ∧ Hid (Block w' g (digits wd v)) ∧ Below w.heap.size w w') := by
    refine (put_good _ wd wd _ 0 wd v _ hrow (by omega) hq).mono ?_
    rintro e w' ⟨g, rfl, hg, hB, hb⟩
    refine ⟨g, rfl, by simp at hg; omega, ?_, hb0.trans (hb.mono (by simp))⟩
    rw [show (0 : Int).toNat = 0 from rfl, Int.toNat_natCast, put_whole _ _ (length_digits _ _)] at hB
    exact hB
  clear hb0 hrow hq hw
  go_enter Tryd.func78, Tryd.ntmps78
  go_wp2_with (go_at_call 71; refine (unhide K).mono ?_; rintro e w' ⟨g, rfl, hg, hB, hb⟩)
  go_ret
  exact ⟨g, rfl, hg, hB, hb⟩

/-- A frame's bytes ahead of its sum. -/
def headB (zs : List Int) : List Int := digits 2 (zs.length : Int) ++ zs

/-- A frame. -/
def frameB (zs : List Int) : List Int := headB zs ++ digits 4 ((sumS (headB zs) : Nat) : Int)

theorem headB_length (zs : List Int) : (headB zs).length = 2 + zs.length := by rw [headB, List.length_append, length_digits]

theorem frameB_length (zs : List Int) : (frameB zs).length = zs.length + 6 := by rw [frameB, List.length_append, headB_length, length_digits]; omega

theorem headB_byts {zs : List Int} (h : Byts zs) : Byts (headB zs) := by
  intro z hz
  rw [headB, List.mem_append] at hz
  rcases hz with hz | hz
  · exact digits_byte _ _ z hz
  · exact h z hz

theorem frameB_byts {zs : List Int} (h : Byts zs) : Byts (frameB zs) := by
  intro z hz
  rw [frameB, List.mem_append] at hz
  rcases hz with hz | hz
  · exact headB_byts h z hz
  · exact digits_byte _ _ z hz

set_option maxHeartbeats 1000000 in
theorem frame_bad (a : Option Addr) (len cap : Nat) (w : World) (h : 65535 < len) (hl : len ≤ 140737488351232) :
    Calls Tryd.prog 58 #[.slice a len cap] w fun e w' => e = .returned (.tuple #[.slice none 0 0, .int .i64 5]) ∧ w = w' := by
  go_enter Tryd.func58, Tryd.ntmps58
  go_wp2
  go_ret2
  exact ⟨rfl, rfl⟩

set_option maxHeartbeats 2000000 in
theorem frame_good (a : Option Addr) (len cap : Nat) (zs : List Int) (w : World) (hr : Row w.heap.size w a len cap zs) (hT : Tab w) (h : len ≤ 65535) :
    Calls Tryd.prog 58 #[.slice a len cap] w fun e w' => ∃ a' c', e = .returned (.tuple #[.slice a' (len + 6) c', .int .i64 0]) ∧ Hid (Own w.heap.size w' a' (len + 6) c' (frameB zs)) ∧ Below w.heap.size w w' := by
  have hlen := hr.1
  have hby := hr.byts
  obtain ⟨i0, hi, hz0, hz1, hz2⟩ := info_parts info5
  have hmk : ∀ w : World, (Instr.makeSlice 26 (.int .i64 0) (.int .i64 (2 + (len : Int) + 4))).run Tryd.prog w = .ok (.slice (some ⟨w.heap.size, 0, none⟩) 0 (len + 6)) (w.alloc (.cells (madeCells #[.int .u8 0] (len + 6)) 5)) := by
    intro w
    have := run_make (P := Tryd.prog) w 26 5 i0 (.int .u8 0) Tryd.underlying26 hi hz0 .i64 .i64 0 (2 + (len : Int) + 4) (by omega) (by omega) (by rw [hz2]; omega) (by omega)
    rw [this, hz1, show (2 + (len : Int) + 4).toNat = len + 6 by omega, Nat.mul_one]
    rfl
  have S1 : Hid (∀ w2 g1, w.heap.size + 1 ≤ g1 → Hid (Block w2 g1 (digits 2 (len : Int))) → Below (w.alloc (.cells (madeCells #[.int .u8 0] (len + 6)) 5)).heap.size (w.alloc (.cells (madeCells #[.int .u8 0] (len + 6)) 5)) w2 →
      ∃ a3 c3 w3 a4 c4 w4, (∀ ty, (Builtin.append_ #[26, 26] ty #[.slice (some ⟨w.heap.size, 0, none⟩) 0 (len + 6), .slice (some ⟨g1, 0, none⟩) 2 2]).run Tryd.prog w2 = .ok (.slice a3 2 c3) w3) ∧
        (∀ ty, (Builtin.append_ #[26, 26] ty #[.slice a3 2 c3, .slice a len cap]).run Tryd.prog w3 = .ok (.slice a4 (2 + len) c4) w4) ∧ Hid (Own w.heap.size w4 a4 (2 + len) c4 (headB zs) ∧ Below w.heap.size w w4)) := by
    intro w2 g1 hg1 hB1 hb1
    have hb0 : Below w.heap.size w (w.alloc (.cells (madeCells #[.int .u8 0] (len + 6)) 5)) := (Below.refl _ w).alloc (Nat.le_refl _) _
    have hown : Own w.heap.size (w.alloc (.cells (madeCells #[.int .u8 0] (len + 6)) 5)) (some ⟨w.heap.size, 0, none⟩) 0 (len + 6) [] :=
      ⟨rfl, by omega, by unfold maxLen; omega, .inr ⟨w.heap.size, _, rfl, Nat.le_refl _, World.alloc_heap_new w _, by rw [← Array.length_toList, toList_madeCells_one, List.length_replicate], by simp⟩⟩
    have hb2 : Below w.heap.size w w2 := hb0.trans (hb1.mono (by simp))
    have hown2 := hown.below hb1 (Nat.le_refl _)
    obtain ⟨a3, c3, w3, r3, o3, k3, b3⟩ := run_append_bytes hown2 hb2.size 2 ((unhide hB1).has (len := 2) (length_digits _ _)) (by omega)
    have hb3 := hb2.trans b3
    obtain ⟨a4, c4, w4, r4, o4, k4, b4⟩ := run_append_bytes o3 hb3.size cap (hr.below hb3 hb3.size).has (by omega)
    refine ⟨a3, c3, w3, a4, c4, w4, fun ty => by simpa using r3 ty, fun ty => by simpa using r4 ty, ?_, hb3.trans b4⟩
    rw [List.nil_append, Nat.zero_add, ← hlen] at o4
    rw [← hlen]
    exact o4
  have S2 : Hid (∀ a4 c4 w4 w5 g2, Hid (Own w.heap.size w4 a4 (2 + len) c4 (headB zs) ∧ Below w.heap.size w w4) → Hid (Block w5 g2 (digits 4 ((sumS (headB zs) : Nat) : Int))) → Below w4.heap.size w4 w5 →
      ∃ a6 c6 w6, (∀ ty, (Builtin.append_ #[26, 26] ty #[.slice a4 (2 + len) c4, .slice (some ⟨g2, 0, none⟩) 4 4]).run Tryd.prog w5 = .ok (.slice a6 (len + 6) c6) w6) ∧ Hid (Own w.heap.size w6 a6 (len + 6) c6 (frameB zs) ∧ Below w.heap.size w w6)) := by
    intro a4 c4 w4 w5 g2 h4 hB2 hb5
    obtain ⟨o4, b4⟩ := unhide h4
    have b5 := b4.trans (hb5.mono b4.size)
    obtain ⟨a6, c6, w6, r6, o6, _, b6⟩ := run_append_bytes (o4.below hb5 (Nat.le_refl _)) b5.size 4 ((unhide hB2).has (len := 4) (length_digits _ _)) (by omega)
    rw [show 2 + len + 4 = len + 6 by omega] at r6 o6
    exact ⟨a6, c6, w6, r6, o6, b5.trans b6⟩
  have hS := sumS_lt (headB_byts hby)
  have K1 : Hid (∀ w1, Calls Tryd.prog 78 #[.int .i64 2, .int .i64 (len : Int)] w1 fun e w' => ∃ g, e = .returned (.slice (some ⟨g, 0, none⟩) 2 2) ∧ w1.heap.size ≤ g ∧ Hid (Block w' g (digits 2 (len : Int))) ∧ Below w1.heap.size w1 w') :=
    fun w1 => number_any 2 len w1 (.inl rfl) (by omega) (by omega)
  have K2 : Hid (∀ a4 c4 w4, Hid (Own w.heap.size w4 a4 (2 + len) c4 (headB zs) ∧ Below w.heap.size w w4) → Calls Tryd.prog 54 #[.slice a4 (2 + len) c4] w4 fun e w' => e = .returned (.int .i64 ((sumS (headB zs) : Nat) : Int)) ∧ w4 = w') :=
    fun a4 c4 w4 h4 => sum_any a4 (2 + len) c4 (headB zs) w4 (hT.below (unhide h4).2 (tab_size hT)) (unhide h4).1.has (by omega) (headB_byts hby)
  have K3 : Hid (∀ w1, Calls Tryd.prog 78 #[.int .i64 4, .int .i64 ((sumS (headB zs) : Nat) : Int)] w1 fun e w' => ∃ g, e = .returned (.slice (some ⟨g, 0, none⟩) 4 4) ∧ w1.heap.size ≤ g ∧ Hid (Block w' g (digits 4 ((sumS (headB zs) : Nat) : Int))) ∧ Below w1.heap.size w1 w') :=
    fun w1 => number_any 4 _ w1 (.inr rfl) (by omega) (by omega)
  generalize sumS (headB zs) = S at *
  clear hr hT hby hlen hi hz0 hz1 hz2 i0
  go_enter Tryd.func58, Tryd.ntmps58
  go_wp2_with fail
  go_at_call 78
  refine (unhide K1 _).mono ?_
  rintro e w2 ⟨g1, rfl, hg1, hB1, hb1⟩
  obtain ⟨a3, c3, w3, a4, c4, w4, r3, r4, h4⟩ := unhide S1 w2 g1 (by simpa using hg1) hB1 hb1
  have R3 := hide r3
  have R4 := hide r4
  clear r3 r4 S1 hg1 hB1 hb1
  go_wp2_with (first
    | (at_builtin; refine wpList_append_run 26 rfl _ _ rfl _ _ _ rfl rfl (unhide R3) ?_)
    | (at_builtin; refine wpList_append_run 26 rfl _ _ rfl _ _ _ rfl rfl (unhide R4) ?_)
    | (go_at_call 54; refine (unhide K2 _ _ _ h4).mono ?_; rintro e w5 ⟨rfl, rfl⟩))
  go_at_call 78
  refine (unhide K3 _).mono ?_
  rintro e w5 ⟨g2, rfl, hg2, hB2, hb2⟩
  obtain ⟨a6, c6, w6, r6, h6⟩ := unhide S2 a4 c4 w4 w5 g2 h4 hB2 hb2
  have R6 := hide r6
  clear r6 S2
  go_wp2_with (at_builtin; refine wpList_append_run 26 rfl _ _ rfl _ _ _ rfl rfl (unhide R6) ?_)
  go_ret2
  exact ⟨a6, c6, rfl, (unhide h6).1, (unhide h6).2⟩

end Go.Proofs.YtmdkcoenjadieaaDoor

