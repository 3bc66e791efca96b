/- Spectra of bytes that stand one behind the other. -/
import Derived.Test.YtkbngbilgebgiaaTJoin
import Derived.Test.YtkbngbilgebgiaaGApp
namespace Go.Proofs.Ytkbngbilgebgiaa
open Go.RowKit Go.Shelf Ieee
set_option linter.unusedVariables false

abbrev Byts (zs : List Int) : Prop := ∀ z ∈ zs, 0 ≤ z ∧ z ≤ 255

theorem byts_append {xs ys : List Int} (h1 : Byts xs) (h2 : Byts ys) : Byts (xs ++ ys) := by
  intro z hz
  rw [List.mem_append] at hz
  rcases hz with hz | hz
  · exact h1 z hz
  · exact h2 z hz

theorem sm_prefix (xs ys : List Int) (q r : Nat) (h : q ≤ xs.length) : sm (xs ++ ys) q r = sm xs q r := by
  induction q with
  | zero => rfl
  | succ q ih =>
    simp only [sm]
    rw [ih (by omega), List.getElem?_append_left (by omega)]

theorem sm_append (xs ys : List Int) (q r : Nat) (hr : r < 4) : sm (xs ++ ys) (xs.length + q) r = sm xs xs.length r + sh (sm ys q) xs.length r := by
  induction q with
  | zero => rw [Nat.add_zero, sm_prefix _ _ _ _ (Nat.le_refl _)]; simp [sh, sm]
  | succ q ih =>
    have e : sm (xs ++ ys) (xs.length + (q + 1)) r = sm (xs ++ ys) (xs.length + q) r + if (xs.length + q) % 4 = r then (xs ++ ys)[xs.length + q]?.getD 0 else 0 := rfl
    rw [e, ih, List.getElem?_append_right (by omega), Nat.add_sub_cancel_left]
    simp only [sh, sm]
    by_cases h : (xs.length + q) % 4 = r
    · have h2 : q % 4 = (r + (4 - xs.length % 4)) % 4 := by omega
      rw [if_pos h, if_pos h2]; omega
    · have h2 : ¬ q % 4 = (r + (4 - xs.length % 4)) % 4 := by omega
      rw [if_neg h, if_neg h2]; omega

theorem sm_none (n q r : Nat) : sm (List.replicate n 0) q r = 0 := by
  induction q with
  | zero => rfl
  | succ q ih =>
    simp only [sm, ih]
    have : (List.replicate n (0 : Int))[q]?.getD 0 = 0 := by
      rw [List.getElem?_replicate]
      split <;> rfl
    rw [this]
    split <;> rfl

/-- The four numbers are the spectrum of these bytes. -/
def Sp (zs : List Int) (V : Nat → Value) : Prop := C4 V (sre (sm zs zs.length)) (sim (sm zs zs.length))

theorem sp_sound {zs : List Int} (h : Byts zs) (hl : zs.length ≤ 1048576) : Sound (sm zs zs.length) := by
  intro j hj
  have := sm_bd zs h zs.length j
  omega

theorem of_sp (a : Option Addr) (len cap : Nat) (zs : List Int) (w : World) (hH : Has w a len zs) (hby : Byts zs) (hl : len ≤ 1099511627776) :
    Calls Try.prog 8 #[.slice a len cap] w fun e w' => ∃ V, e = .returned (.agg #[V 0, V 1, V 2, V 3]) ∧ Sp zs V ∧ Below w.heap.size w w' := by
  refine (of_any a len cap zs w hH hby hl).mono ?_
  rintro e w' ⟨V, rfl, hV, hb⟩
  refine ⟨V, rfl, ?_, hb⟩
  unfold Sp
  rw [hH.1]
  exact hV

theorem join_sp (xs ys : List Int) (F G : Nat → Value) (n : Nat) (w : World) (hF : Sp xs F) (hG : Sp ys G) (hn : xs.length = n) (hx : Byts xs) (hy : Byts ys) (lx : xs.length ≤ 100000) (ly : ys.length ≤ 100000) :
    Calls Try.prog 12 #[.agg #[F 0, F 1, F 2, F 3], .agg #[G 0, G 1, G 2, G 3], .int .i64 (n : Int)] w fun e w' => ∃ V, e = .returned (.tuple #[.agg #[V 0, V 1, V 2, V 3], .int .i64 0]) ∧ Sp (xs ++ ys) V ∧ Below w.heap.size w w' := by
  subst hn
  have key : ∀ i, i < 4 → sm xs xs.length i + sh (sm ys ys.length) xs.length i = sm (xs ++ ys) (xs ++ ys).length i := fun i hi => by
    rw [List.length_append, sm_append xs ys ys.length i hi]
  have hS : Sound (fun i => sm xs xs.length i + sh (sm ys ys.length) xs.length i) := by
    intro i hi
    have h1 := sm_bd xs hx xs.length i
    have h2 := sm_bd ys hy ys.length ((i + (4 - xs.length % 4)) % 4)
    simp only [sh]
    omega
  refine (join_any F G _ _ xs.length w hF hG (sp_sound hx (by omega)) (sp_sound hy (by omega)) hS).mono ?_
  rintro e w' ⟨V, rfl, hV, hb⟩
  exact ⟨V, rfl, hV.congr (fun j _ => (sre_congr key j).1) (fun j _ => (sre_congr key j).2), hb⟩

theorem shift_sp (ys : List Int) (G : Nat → Value) (n : Nat) (w : World) (hG : Sp ys G) (hy : Byts ys) (ly : ys.length ≤ 1048576) :
    Calls Try.prog 13 #[.agg #[G 0, G 1, G 2, G 3], .int .i64 (n : Int)] w fun e w' => ∃ V, e = .returned (.tuple #[.agg #[V 0, V 1, V 2, V 3], .int .i64 0]) ∧ Sp (List.replicate n 0 ++ ys) V ∧ Below w.heap.size w w' := by
  have key : ∀ i, i < 4 → sh (sm ys ys.length) n i = sm (List.replicate n 0 ++ ys) (List.replicate n 0 ++ ys).length i := fun i hi => by
    rw [List.length_append, sm_append (List.replicate n 0) ys ys.length i hi, sm_none, List.length_replicate, Int.zero_add]
  refine (shift_any G _ n w hG (sp_sound hy ly)).mono ?_
  rintro e w' ⟨V, rfl, hV, hb⟩
  exact ⟨V, rfl, hV.congr (fun j _ => (sre_congr key j).1) (fun j _ => (sre_congr key j).2), hb⟩

theorem own_bare (w : World) : Own w.heap.size (w.alloc (.cells #[] 5)) (some ⟨w.heap.size, 0, none⟩) 0 0 [] :=
  ⟨rfl, Nat.le_refl _, by unfold maxLen; omega, .inr ⟨w.heap.size, #[], rfl, Nat.le_refl _, World.alloc_heap_new w _, rfl, rfl⟩⟩

/-- append([]byte{}, x...). -/
theorem app_one {w : World} {a : Option Addr} {n c : Nat} {xs : List Int} (h : Has w a n xs) (hn : n ≤ 140737488351232) :
    ∃ a1 c1 w1, (∀ ty, (Builtin.append_ #[22, 22] ty #[.slice (some ⟨w.heap.size, 0, none⟩) 0 0, .slice a n c]).run Try.prog (w.alloc (.cells #[] 5)) = .ok (.slice a1 n c1) w1) ∧ Hid (Own w.heap.size w1 a1 n c1 xs ∧ Below w.heap.size w w1) := by
  have hb0 : Below w.heap.size w (w.alloc (.cells #[] 5)) := (Below.refl _ w).alloc (Nat.le_refl _) _
  obtain ⟨a1, c1, w1, r1, o1, _, b1⟩ := run_append_bytes (own_bare w) hb0.size c (h.below hb0) (by omega)
  rw [Nat.zero_add] at r1 o1
  exact ⟨a1, c1, w1, r1, o1, hb0.trans b1⟩

/-- append(append([]byte{}, x...), y...). -/
theorem app_two {w : World} {a b : Option Addr} {n c m d : Nat} {xs ys : List Int} (h : Has w a n xs) (h' : Has w b m ys) (hn : n ≤ 1000000) (hm : m ≤ 1000000) :
    ∃ a1 c1 w1 a2 c2 w2, (∀ ty, (Builtin.append_ #[22, 22] ty #[.slice (some ⟨w.heap.size, 0, none⟩) 0 0, .slice a n c]).run Try.prog (w.alloc (.cells #[] 5)) = .ok (.slice a1 n c1) w1) ∧
      (∀ ty, (Builtin.append_ #[22, 22] ty #[.slice a1 n c1, .slice b m d]).run Try.prog w1 = .ok (.slice a2 (n + m) c2) w2) ∧ Hid (Has w2 a2 (n + m) (xs ++ ys) ∧ Below w.heap.size w w2 ∧ Below w.heap.size w w1) := by
  obtain ⟨a1, c1, w1, r1, h1⟩ := app_one (c := c) h (by omega)
  obtain ⟨o1, b1⟩ := unhide h1
  obtain ⟨a2, c2, w2, r2, o2, _, b2⟩ := run_append_bytes o1 b1.size d (h'.below b1) (by omega)
  exact ⟨a1, c1, w1, a2, c2, w2, r1, r2, o2.has, b1.trans b2, b1⟩

/-- append(make([]byte, k), y...). -/
theorem app_made {w : World} {b : Option Addr} {k m d : Nat} {ys : List Int} (h : Has w b m ys) (hk : k ≤ 1000000) (hm : m ≤ 1000000) :
    ∃ a2 c2 w2, (∀ ty, (Builtin.append_ #[22, 22] ty #[.slice (some ⟨w.heap.size, 0, none⟩) k k, .slice b m d]).run Try.prog (w.alloc (.cells (madeCells #[.int .u8 0] k) 5)) = .ok (.slice a2 (k + m) c2) w2) ∧ Hid (Has w2 a2 (k + m) (List.replicate k 0 ++ ys) ∧ Below w.heap.size w w2) := by
  have hb0 : Below w.heap.size w (w.alloc (.cells (madeCells #[.int .u8 0] k) 5)) := (Below.refl _ w).alloc (Nat.le_refl _) _
  have hB : Block (w.alloc (.cells (madeCells #[.int .u8 0] k) 5)) w.heap.size (List.replicate k 0) := by
    unfold Block
    rw [World.alloc_heap_new, List.map_replicate, ← toList_madeCells_one, Array.toArray_toList]
  obtain ⟨a2, c2, w2, r2, o2, _, b2⟩ := run_append_bytes (hB.own (len := k) (by simp) (Nat.le_refl _) (by omega)) hb0.size d (h.below hb0) (by omega)
  exact ⟨a2, c2, w2, r2, o2.has, hb0.trans b2⟩
end Go.Proofs.Ytkbngbilgebgiaa
