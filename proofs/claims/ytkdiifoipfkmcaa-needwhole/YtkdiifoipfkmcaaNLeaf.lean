/- The small functions of amounts, the program's and the document's. -/
import Derived.Test.YtkdiifoipfkmcaaGHuge
import Derived.Test.YtkdiifoipfkmcaaPRefWhole
namespace Go.Proofs.Ytkdiifoipfkmcaa
open Go.RowKit Go.Shelf Ieee
set_option linter.unusedVariables false

theorem rd_of_int (n : Int) (h : -1125899906842624 ≤ n ∧ n ≤ 1125899906842624) : Rd (floatOfInt .f64 n) n := rd_int n (by omega)

theorem am_top {x : Nat} {n : Int} (h : Am x n) (hn : 1073741824 < n) : FloatKind.f64.format.order x 0 = some .gt ∧ FloatKind.f64.format.order x 4742290407621132288 = some .gt := by
  rcases h with ⟨h0, h1, h2⟩ | ⟨h1, h2⟩
  · exact ⟨order_at h2 rd_zero (cmp_gt (by omega)), order_at h2 rd_most (cmp_gt (by omega))⟩
  · exact ⟨hg_order h2 rd_zero (by omega), hg_order h2 rd_most (by omega)⟩

theorem am_in {x : Nat} {n : Int} (h : Rd x n) (h0 : 0 ≤ n) (hn : n ≤ 1073741824) : (FloatKind.f64.format.order x 0 = some .eq ∧ FloatKind.f64.format.order x 4742290407621132288 = some .lt) ∨ (FloatKind.f64.format.order x 0 = some .gt ∧ FloatKind.f64.format.order x 4742290407621132288 = some .lt) ∨ (FloatKind.f64.format.order x 0 = some .gt ∧ FloatKind.f64.format.order x 4742290407621132288 = some .eq) := by
  by_cases h1 : n = 0
  · exact .inl ⟨order_at h rd_zero (by rw [h1]; exact cmp_eq _), order_at h rd_most (cmp_lt (by omega))⟩
  · by_cases h2 : n = 1073741824
    · exact .inr (.inr ⟨order_at h rd_zero (cmp_gt (by omega)), order_at h rd_most (by rw [h2]; exact cmp_eq _)⟩)
    · exact .inr (.inl ⟨order_at h rd_zero (cmp_gt (by omega)), order_at h rd_most (cmp_lt (by omega))⟩)

theorem whole_am (x : Nat) (n : Int) (w : World) (h : Am x n) :
    Calls Try.prog 37 #[.float .f64 x] w fun e w' => e = .returned (.bool (decide (n ≤ 1073741824))) ∧ w = w' := by
  by_cases hn : n ≤ 1073741824
  · rw [decide_eq_true hn]
    have hr := am_small h hn
    have h0 := h.nonneg
    have ti := fun w => run_convert_float_int (P := Try.prog) w 35 3 .f64 .i64 x n (by kernel_rfl) (by kernel_rfl) (to_int hr (by omega))
    have o3 : FloatKind.f64.format.order x (floatOfInt .f64 n) = some .eq := order_at hr (rd_of_int n (by omega)) (cmp_eq _)
    have hc := am_in hr h0 hn
    clear h hr h0 hn
    rcases hc with ⟨o1, o2⟩ | ⟨o1, o2⟩ | ⟨o1, o2⟩
    all_goals
      go_enter Try.func37, Try.ntmps37
      go_wp2
      go_ret
      exact ⟨rfl, rfl⟩
  · rw [decide_eq_false hn]
    obtain ⟨o1, o2⟩ := am_top h (by omega)
    clear h hn
    go_enter Try.func37, Try.ntmps37
    go_wp2
    go_ret
    exact ⟨rfl, rfl⟩

theorem rwhole_am (x : Nat) (n : Int) (w : World) (h : Rd x n) (h0 : 0 ≤ n) (hn : n ≤ 1073741824) :
    Calls Try.prog 43 #[.float .f64 x] w fun e w' => e = .returned (.tuple #[.int .i64 n, .bool true]) ∧ w = w' := by
  have ti := fun w => run_convert_float_int (P := Try.prog) w 35 3 .f64 .i64 x n (by kernel_rfl) (by kernel_rfl) (to_int h (by omega))
  have o3 : FloatKind.f64.format.order (floatOfInt .f64 n) x = some .eq := order_at (rd_of_int n (by omega)) h (cmp_eq _)
  have hc := am_in h h0 hn
  clear h h0 hn
  rcases hc with ⟨o1, o2⟩ | ⟨o1, o2⟩ | ⟨o1, o2⟩
  all_goals
    go_enter Try.func43, Try.ntmps43
    go_wp2
    go_ret2
    exact ⟨rfl, rfl⟩

/-- A sound sum of two kinds? -/
def okA (n m : Int) : Bool := decide (n ≤ 1073741824) && decide (m ≤ 1073741824)

theorem sound_am (x y : Nat) (n m : Int) (w : World) (hx : Am x n) (hy : Am y m) :
    Calls Try.prog 27 #[.complex .f64 x y] w fun e w' => e = .returned (.bool (okA n m)) ∧ w = w' := by
  have H1 := hide (fun w => whole_am x n w hx)
  have H2 := hide (fun w => whole_am y m w hy)
  unfold okA
  clear hx hy
  by_cases h1 : n ≤ 1073741824
  · rw [decide_eq_true h1] at *
    generalize decide (m ≤ 1073741824) = b at *
    clear h1
    go_enter Try.func27, Try.ntmps27
    go_wp2_with fail
    go_at_call 37
    refine (unhide H1 _).mono ?_
    rintro e w' ⟨rfl, rfl⟩
    go_wp2_with fail
    go_at_call 37
    refine (unhide H2 _).mono ?_
    rintro e w' ⟨rfl, rfl⟩
    go_wp2
    go_ret
    exact ⟨rfl, rfl⟩
  · rw [decide_eq_false h1] at *
    clear h1 H2
    go_enter Try.func27, Try.ntmps27
    go_wp2_with fail
    go_at_call 37
    refine (unhide H1 _).mono ?_
    rintro e w' ⟨rfl, rfl⟩
    go_wp2
    go_ret
    exact ⟨rfl, rfl⟩

/-- An answer: an amount and an error. -/
def AnsA (r : Ending) (E B I : Int) : Prop := ∃ x y, r = .returned (.tuple #[.complex .f64 x y, .int .i64 E]) ∧ Rd x B ∧ Rd y I

/-- The error of a sum. -/
def toE (n m : Int) : Int := if okA n m then 0 else 3
def toB (n m : Int) : Int := if okA n m then n else 0
def toI (n m : Int) : Int := if okA n m then m else 0

theorem okA_iff {n m : Int} : okA n m = true ↔ n ≤ 1073741824 ∧ m ≤ 1073741824 := by simp [okA]

theorem total_am (x y : Nat) (n m : Int) (w : World) (hx : Am x n) (hy : Am y m) :
    Calls Try.prog 25 #[.complex .f64 x y] w fun e w' => AnsA e (toE n m) (toB n m) (toI n m) ∧ w = w' := by
  have H1 := hide (fun w => sound_am x y n m w hx hy)
  have HX := hide (And.intro hx hy)
  clear hx hy
  unfold toE toB toI
  by_cases h : okA n m = true
  · have hb := okA_iff.1 h
    rw [h] at H1
    have HR : Hid (Rd x n ∧ Rd y m) := ⟨am_small (unhide HX).1 hb.1, am_small (unhide HX).2 hb.2⟩
    rw [if_pos h, if_pos h, if_pos h]
    clear h hb HX
    go_enter Try.func25, Try.ntmps25
    go_wp2_with fail
    go_at_call 27
    refine (unhide H1 _).mono ?_
    rintro e w' ⟨rfl, rfl⟩
    go_wp2
    go_ret2
    exact ⟨⟨x, y, rfl, (unhide HR).1, (unhide HR).2⟩, rfl⟩
  · rw [Bool.not_eq_true] at h
    rw [h] at H1
    rw [if_neg (by simp [h]), if_neg (by simp [h]), if_neg (by simp [h])]
    clear h HX
    go_enter Try.func25, Try.ntmps25
    go_wp2_with fail
    go_at_call 27
    refine (unhide H1 _).mono ?_
    rintro e w' ⟨rfl, rfl⟩
    go_wp2
    go_ret2
    exact ⟨⟨0, 0, rfl, rd_zero, rd_zero⟩, rfl⟩

/-- Can an amount be made of these? -/
def inA (b : Int) : Prop := 0 ≤ b ∧ b ≤ 1073741824

theorem noutside_any (b : Int) (w : World) :
    Calls Try.prog 28 #[.int .i64 b] w fun e w' => e = .returned (.bool (decide (b < 0 ∨ 1073741824 < b))) ∧ w = w' := by
  by_cases h1 : b < 0
  · go_enter Try.func28, Try.ntmps28
    go_wp2
    go_ret
    simp [h1]
  · by_cases h2 : 1073741824 < b
    · go_enter Try.func28, Try.ntmps28
      go_wp2
      go_ret
      simp
    · go_enter Try.func28, Try.ntmps28
      go_wp2
      go_ret
      simp; omega

theorem amount_ok (b i : Int) (w : World) (hb : inA b) (hi : inA i) :
    Calls Try.prog 17 #[.int .i64 b, .int .i64 i] w fun e w' => AnsA e 0 b i ∧ w = w' := by
  obtain ⟨b0, b1⟩ := hb
  obtain ⟨i0, i1⟩ := hi
  have e1 : decide (b < 0 ∨ 1073741824 < b) = false := decide_eq_false (by omega)
  have e2 : decide (i < 0 ∨ 1073741824 < i) = false := decide_eq_false (by omega)
  have H1 := hide (noutside_any b)
  have H2 := hide (noutside_any i)
  rw [e1] at H1
  rw [e2] at H2
  have HR : Hid (Rd (floatOfInt .f64 b) b ∧ Rd (floatOfInt .f64 i) i) := ⟨rd_of_int b (by omega), rd_of_int i (by omega)⟩
  clear e1 e2 b0 b1 i0 i1
  go_enter Try.func17, Try.ntmps17
  go_wp2_with fail
  go_at_call 28
  refine (unhide H1 _).mono ?_
  rintro e w' ⟨rfl, rfl⟩
  go_wp2_with fail
  go_at_call 28
  refine (unhide H2 _).mono ?_
  rintro e w' ⟨rfl, rfl⟩
  go_wp2
  go_ret2
  exact ⟨⟨_, _, rfl, (unhide HR).1, (unhide HR).2⟩, rfl⟩

theorem rsound_any (b i : Int) (w : World) (hb : inA b) (hi : inA i) :
    Calls Try.prog 33 #[.int .i64 b, .int .i64 i] w fun e w' => e = .returned (.bool true) ∧ w = w' := by
  obtain ⟨b0, b1⟩ := hb
  obtain ⟨i0, i1⟩ := hi
  go_enter Try.func33, Try.ntmps33
  go_wp2
  go_ret
  simp

theorem rsound_not (b i : Int) (w : World) (h0 : 0 ≤ b) (h1 : 0 ≤ i) (h : ¬ (b ≤ 1073741824 ∧ i ≤ 1073741824)) :
    Calls Try.prog 33 #[.int .i64 b, .int .i64 i] w fun e w' => e = .returned (.bool false) ∧ w = w' := by
  by_cases h2 : b ≤ 1073741824
  · have h3 : ¬ i ≤ 1073741824 := fun h3 => h ⟨h2, h3⟩
    clear h
    go_enter Try.func33, Try.ntmps33
    go_wp2
    go_ret
    simp
  · clear h
    go_enter Try.func33, Try.ntmps33
    go_wp2
    go_ret
    simp

theorem ramount_ok (b i : Int) (w : World) (hb : inA b) (hi : inA i) :
    Calls Try.prog 20 #[.int .i64 b, .int .i64 i] w fun e w' => AnsA e 0 b i ∧ w = w' := by
  have H1 := hide (fun w => rsound_any b i w hb hi)
  obtain ⟨b0, b1⟩ := hb
  obtain ⟨i0, i1⟩ := hi
  have HR : Hid (Rd (floatOfInt .f64 b) b ∧ Rd (floatOfInt .f64 i) i) := ⟨rd_of_int b (by omega), rd_of_int i (by omega)⟩
  clear b0 b1 i0 i1
  go_enter Try.func20, Try.ntmps20
  go_wp2_with fail
  go_at_call 33
  refine (unhide H1 _).mono ?_
  rintro e w' ⟨rfl, rfl⟩
  go_wp2
  go_ret2
  exact ⟨⟨_, _, rfl, (unhide HR).1, (unhide HR).2⟩, rfl⟩

theorem ramount_not (b i : Int) (w : World) (h0 : 0 ≤ b) (h1 : 0 ≤ i) (h : ¬ (b ≤ 1073741824 ∧ i ≤ 1073741824)) :
    Calls Try.prog 20 #[.int .i64 b, .int .i64 i] w fun e w' => AnsA e 3 0 0 ∧ w = w' := by
  have H1 := hide (fun w => rsound_not b i w h0 h1 h)
  clear h0 h1 h
  go_enter Try.func20, Try.ntmps20
  go_wp2_with fail
  go_at_call 33
  refine (unhide H1 _).mono ?_
  rintro e w' ⟨rfl, rfl⟩
  go_wp2
  go_ret2
  exact ⟨⟨0, 0, rfl, rd_zero, rd_zero⟩, rfl⟩

/-- What the document's Amount answers to a sum. -/
theorem ramount_total (b i : Int) (w : World) (h0 : 0 ≤ b) (h1 : 0 ≤ i) :
    Calls Try.prog 20 #[.int .i64 b, .int .i64 i] w fun e w' => AnsA e (toE b i) (toB b i) (toI b i) ∧ w = w' := by
  unfold toE toB toI
  by_cases h : okA b i = true
  · have hb := okA_iff.1 h
    rw [if_pos h, if_pos h, if_pos h]
    exact ramount_ok b i w ⟨h0, hb.1⟩ ⟨h1, hb.2⟩
  · rw [if_neg h, if_neg h, if_neg h]
    exact ramount_not b i w h0 h1 (fun x => h (okA_iff.2 x))

theorem rparts_ok (x y : Nat) (n m : Int) (w : World) (hx : Rd x n) (hy : Rd y m) (hn : inA n) (hm : inA m) :
    Calls Try.prog 36 #[.complex .f64 x y] w fun e w' => e = .returned (.tuple #[.int .i64 n, .int .i64 m, .int .i64 0]) ∧ w = w' := by
  have H1 := hide (fun w => rwhole_am x n w hx hn.1 hn.2)
  have H2 := hide (fun w => rwhole_am y m w hy hm.1 hm.2)
  clear hx hy hn hm
  go_enter Try.func36, Try.ntmps36
  go_wp2_with fail
  go_at_call 43
  refine (unhide H1 _).mono ?_
  rintro e w' ⟨rfl, rfl⟩
  go_wp2_with fail
  go_at_call 43
  refine (unhide H2 _).mono ?_
  rintro e w' ⟨rfl, rfl⟩
  go_wp2
  go_ret3
  exact ⟨rfl, rfl⟩

theorem ord_le {x y : Nat} {a b : Int} (h1 : Rd x a) (h2 : Rd y b) : FloatKind.f64.format.order x y = some (compare a b) := rd_order h1 h2

theorem fits_ok (x y u v : Nat) (a b c d : Int) (w : World) (hx : Rd x a) (hy : Rd y b) (hu : Rd u c) (hv : Rd v d) (ha : inA a) (hb : inA b) (hc : inA c) (hd : inA d) (h1 : a ≤ c) (h2 : b ≤ d) :
    Calls Try.prog 15 #[.complex .f64 x y, .complex .f64 u v] w fun e w' => e = .returned (.tuple #[.bool true, .int .i64 0]) ∧ w = w' := by
  have H1 := hide (fun w => sound_am x y a b w (am_of hx ha.1 ha.2) (am_of hy hb.1 hb.2))
  have H2 := hide (fun w => sound_am u v c d w (am_of hu hc.1 hc.2) (am_of hv hd.1 hd.2))
  rw [okA_iff.2 ⟨ha.2, hb.2⟩] at H1
  rw [okA_iff.2 ⟨hc.2, hd.2⟩] at H2
  have o1 : FloatKind.f64.format.order x u = some .lt ∨ FloatKind.f64.format.order x u = some .eq := by
    by_cases h : a = c
    · exact .inr (order_at hx hu (by rw [h]; exact cmp_eq _))
    · exact .inl (order_at hx hu (cmp_lt (by omega)))
  have o2 : FloatKind.f64.format.order y v = some .lt ∨ FloatKind.f64.format.order y v = some .eq := by
    by_cases h : b = d
    · exact .inr (order_at hy hv (by rw [h]; exact cmp_eq _))
    · exact .inl (order_at hy hv (cmp_lt (by omega)))
  clear hx hy hu hv ha hb hc hd h1 h2
  rcases o1 with o1 | o1 <;> rcases o2 with o2 | o2
  all_goals
    go_enter Try.func15, Try.ntmps15
    go_wp2_with fail
    go_at_call 27
    refine (unhide H1 _).mono ?_
    rintro e w' ⟨rfl, rfl⟩
    go_wp2_with fail
    go_at_call 27
    refine (unhide H2 _).mono ?_
    rintro e w' ⟨rfl, rfl⟩
    go_wp2
    go_ret2
    exact ⟨rfl, rfl⟩

end Go.Proofs.Ytkdiifoipfkmcaa
