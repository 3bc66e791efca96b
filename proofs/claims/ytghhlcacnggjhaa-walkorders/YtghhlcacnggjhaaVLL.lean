/- Lists of lists of texts in memory, within the whole reach of the form. -/
import Derived.Test.YtghhlcacnggjhaaVBase
namespace Go.Proofs.Ytghhlcacnggjhaa
open Go.RowKit Go.Shelf
set_option linter.unusedVariables false
set_option maxRecDepth 100000

theorem infoL : (Try.prog.info? 22).map (fun i => (i.zero, i.size, i.bytes)) = some (some (.slice none 0 0), 1, 24) := by kernel_rfl

/-- What a slice asks for when it grows: a quarter more than it must. -/
theorem grow_quarter {need old : Nat} (h : old < need) : Builtin.nextslicecap need old ≤ need + need / 4 + 768 := by
  unfold Builtin.nextslicecap
  split
  · omega
  · split
    · omega
    · rw [growBy_four]
      repeat' split
      all_goals omega

theorem grow_fits {need old : Nat} (h : old < need) (hn : need ≤ 8796093022208) : Builtin.nextslicecap need old * 24 ≤ 281474976710656 := by
  have := grow_quarter h
  omega

def nilV : Value := .slice none 0 0

/-- A slice reads as these values. -/
def HasL (w : World) (a : Option Addr) (n : Nat) (vs : List Value) : Prop :=
  vs.length = n ∧ (0 < n → ∃ b off, a = some ⟨b, off, none⟩ ∧ b < w.heap.size ∧ ∀ j, j < n → w.cell? ⟨b, off + j, none⟩ = some (vs[j]?.getD nilV))

theorem HasL.below {w w' : World} {a : Option Addr} {n : Nat} {vs : List Value} (h : HasL w a n vs) {m : Nat} (hb : Below m w w') (hm : w.heap.size ≤ m) : HasL w' a n vs := by
  refine ⟨h.1, fun hp => ?_⟩
  obtain ⟨b, off, e, hl, hc⟩ := h.2 hp
  exact ⟨b, off, e, Nat.lt_of_lt_of_le hl hb.size, fun j hj => (hb.cell (p := ⟨b, off + j, none⟩) (by show b < m; omega)).trans (hc j hj)⟩

/-- A row of slices of the call's own. -/
def OwnL (B : Nat) (w : World) (a : Option Addr) (n c : Nat) (vs : List Value) : Prop :=
  vs.length = n ∧ n ≤ c ∧ c ≤ maxLen ∧ ((a = none ∧ n = 0 ∧ c = 0) ∨ ∃ g cur, a = some ⟨g, 0, none⟩ ∧ B ≤ g ∧ w.heap[g]? = some (.cells cur 22 (0, 0)) ∧ cur.size = c ∧ cur.toList.take n = vs)

theorem OwnL.nil (B : Nat) (w : World) : OwnL B w none 0 0 [] := ⟨rfl, Nat.le_refl _, by unfold maxLen; omega, .inl ⟨rfl, rfl, rfl⟩⟩

theorem OwnL.kept {B : Nat} {w w' : World} {a : Option Addr} {n c : Nat} {vs : List Value} (h : OwnL B w a n c vs) (hk : ∀ g, a = some ⟨g, 0, none⟩ → w'.heap[g]? = w.heap[g]?) : OwnL B w' a n c vs := by
  obtain ⟨h1, h2, h3, h4⟩ := h
  refine ⟨h1, h2, h3, ?_⟩
  rcases h4 with h4 | ⟨g, cur, e, hg, hh, r⟩
  · exact .inl h4
  · exact .inr ⟨g, cur, e, hg, (hk g e).trans hh, r⟩

theorem OwnL.lt {B : Nat} {w : World} {a : Option Addr} {n c : Nat} {vs : List Value} (h : OwnL B w a n c vs) {g : Nat} (e : a = some ⟨g, 0, none⟩) : g < w.heap.size ∧ B ≤ g := by
  obtain ⟨_, _, _, h4⟩ := h
  rcases h4 with ⟨h4, _⟩ | ⟨g', cur, e', hg, hh, _⟩
  · rw [h4] at e; cases e
  · rw [e] at e'; cases e'
    exact ⟨(Array.getElem?_eq_some_iff.1 hh).1, hg⟩

theorem OwnL.below {B n : Nat} {w w' : World} {a : Option Addr} {l c : Nat} {vs : List Value} (h : OwnL B w a l c vs) (hb : Below n w w') (hn : w.heap.size ≤ n) : OwnL B w' a l c vs :=
  h.kept (fun g e => hb.block g (by have := (h.lt e).1; omega))

theorem OwnL.has {B : Nat} {w : World} {a : Option Addr} {n c : Nat} {vs : List Value} (h : OwnL B w a n c vs) : HasL w a n vs := by
  refine ⟨h.1, fun hp => ?_⟩
  obtain ⟨h1, h2, h3, h4⟩ := h
  rcases h4 with ⟨_, h4, _⟩ | ⟨g, cur, e, hg, hh, hc, ht⟩
  · omega
  · refine ⟨g, 0, e, (Array.getElem?_eq_some_iff.1 hh).1, fun j hj => ?_⟩
    have hx : (cur.toList.take n)[j]? = some (vs[j]?.getD nilV) := by rw [ht, List.getElem?_eq_getElem (by omega)]; rfl
    rw [List.getElem?_take_of_lt hj] at hx
    simp only [World.cell?, hh, Nat.zero_add]
    simpa using hx

set_option maxHeartbeats 1000000 in
/-- append(x, y...) where x is a row of the call's own. -/
theorem run_appL {B : Nat} {w : World} {a : Option Addr} {n c : Nat} {xs : List Value} (h : OwnL B w a n c xs) (hB : B ≤ w.heap.size) {a2 : Option Addr} {m : Nat} {ys : List Value} (c2 : Nat) (h2 : HasL w a2 m ys) (ho : ∀ v ∈ ys, v.oneCell' = true) (hn : n + m ≤ 8796093022208) :
    ∃ a' c' w', (∀ ty, (Builtin.append_ #[49, 49] ty #[.slice a n c, .slice a2 m c2]).run Try.prog w = .ok (.slice a' (n + m) c') w') ∧ OwnL B w' a' (n + m) c' (xs ++ ys) ∧ Below B w w' := by
  obtain ⟨i0, hi, hz0, hz1, hz2⟩ := info_parts infoL
  have hl := h.1
  have hl2 := h2.1
  obtain ⟨_, hnc, hcm, h4⟩ := h
  by_cases h0 : m = 0
  · subst h0
    obtain rfl : ys = [] := List.eq_nil_of_length_eq_zero hl2
    refine ⟨a, c, w, fun ty => ?_, by rw [List.append_nil]; exact ⟨hl, hnc, hcm, h4⟩, Below.refl _ _⟩
    rcases h4 with ⟨rfl, rfl, rfl⟩ | ⟨g, cur, rfl, _⟩
    · cases a2 <;> simp [Builtin.append_, run_underlying Try.underlying49, sizeOf, typeInfo, hi, Builtin.lenOf, Builtin.firstCells, loadCells, loadCellsFrom]
    · cases a2 <;> simp [Builtin.append_, run_underlying Try.underlying49, sizeOf, typeInfo, hi, Builtin.lenOf, Builtin.firstCells, storeCells, loadCells, loadCellsFrom, hnc]
  · obtain ⟨b, off, rfl, hbl, hc⟩ := h2.2 (by omega)
    have hnews : ∀ (j : Nat) (u : Value), ys[j]? = some u → w.cell? ((⟨b, off, none⟩ : Addr).add j) = some u := by
      intro j u hj
      have hjl : j < m := by have := (List.getElem?_eq_some_iff.1 hj).1; omega
      rw [World.add_zero_spot, hc j hjl, hj]; rfl
    have made : ∀ old, old < n + m →
        OwnL B (w.drew.alloc (.cells (xs.toArray ++ ys.toArray ++ Builtin.zeroCells (Value.cells nilV) (grownCap w (n + m) old 22 - (n + m))) 22)) (some ⟨w.heap.size, 0, none⟩) (n + m) (grownCap w (n + m) old 22) (xs ++ ys) ∧
        Below B w (w.drew.alloc (.cells (xs.toArray ++ ys.toArray ++ Builtin.zeroCells (Value.cells nilV) (grownCap w (n + m) old 22 - (n + m))) 22)) := by
      intro old ho
      have hge := grownCap_ge w (n + m) old 22
      have hle := grownCap_le_maxLen w (n + m) old 22 (by unfold maxLen; omega)
      refine ⟨⟨by simp [hl, hl2], hge, hle, .inr ⟨w.heap.size, _, rfl, hB, World.alloc_heap_new w.drew _, ?_, ?_⟩⟩, (Below.refl B w).drew.alloc hB _⟩
      · simp only [Array.size_append, List.size_toArray, size_zeroCells, hl, hl2]
        show n + m + _ * 1 = _
        omega
      · rw [Array.toList_append, Array.toList_append, List.toList_toArray, List.toList_toArray]
        have : (xs ++ ys).length = n + m := by simp [hl, hl2]
        rw [← this, List.take_left]
    rcases h4 with ⟨rfl, rfl, rfl⟩ | ⟨g, cur, rfl, hg, hh, hcs, ht⟩
    · obtain rfl : xs = [] := List.eq_nil_of_length_eq_zero hl
      have hr := fun ty => run_append_nil (P := Try.prog) w 49 ty 22 i0 nilV Try.underlying49 hi hz0 ⟨b, off, none⟩ m c2 ys (by rw [hz1]; omega) hnews (by omega) (by omega) (by rw [hz2]; omega)
      have hmd := made 0 (by omega)
      simp only [Nat.zero_add, List.nil_append] at hmd ⊢
      exact ⟨_, _, _, hr, by simpa using hmd.1, by simpa using hmd.2⟩
    · by_cases hroom : n + m ≤ c
      · have hr := fun ty => run_append_room (P := Try.prog) w 49 ty 22 i0 Try.underlying49 hi g n c cur hh ⟨b, off, none⟩ m c2 ys (by rw [hz1]; omega) hnews ho hroom (by rw [hz1]; omega)
        refine ⟨_, _, _, hr, ⟨by simp [hl, hl2], hroom, hcm, .inr ⟨g, _, rfl, hg, setRow_heap w g cur _ 22 _ hh, ?_, ?_⟩⟩, below_setRow (Below.refl _ _) hg _⟩
        · simp [hz1]; omega
        · rw [hz1, Nat.mul_one, ht, List.toList_toArray]
          have : (xs ++ ys).length = n + m := by simp [hl, hl2]
          rw [← this, List.take_left]
      · have holds : ∀ (j : Nat) (u : Value), xs[j]? = some u → w.cell? ((⟨g, 0, none⟩ : Addr).add j) = some u := by
          intro j u hj
          rw [World.add_zero_spot, Nat.zero_add]
          have hjl : j < n := by have := (List.getElem?_eq_some_iff.1 hj).1; omega
          rw [← ht, List.getElem?_take_of_lt hjl] at hj
          simp only [World.cell?, hh]
          simpa using hj
        have hr := fun ty => run_append_grow (P := Try.prog) w 49 ty 22 i0 nilV Try.underlying49 hi hz0 ⟨g, 0, none⟩ n c xs (by rw [hz1]; omega) holds ⟨b, off, none⟩ m c2 ys (by rw [hz1]; omega) hnews (by omega) (by omega) (by rw [hz2]; exact grow_fits (by omega) hn)
        have hmd := made c (by omega)
        exact ⟨_, _, _, hr, hmd.1, hmd.2⟩

theorem app1L {B : Nat} {w : World} {a : Option Addr} {n c : Nat} {xs : List Value} (h : OwnL B w a n c xs) (hB : B ≤ w.heap.size) (x : Option Addr) (k d : Nat) (hn : n + 1 ≤ 8796093022208) :
    ∃ a' c' w', (∀ ty, (Builtin.append_ #[49, 49] ty #[.slice a n c, .slice (some ⟨w.heap.size, 0, none⟩) 1 1]).run Try.prog (w.alloc (.cells #[.slice x k d] 22)) = .ok (.slice a' (n + 1) c') w') ∧ OwnL B w' a' (n + 1) c' (xs ++ [.slice x k d]) ∧ Below B w w' := by
  have hb0 : Below w.heap.size w (w.alloc (.cells #[.slice x k d] 22)) := (Below.refl _ w).alloc (Nat.le_refl _) _
  have h1 := h.below hb0 (Nat.le_refl _)
  have h2 : HasL (w.alloc (.cells #[.slice x k d] 22)) (some ⟨w.heap.size, 0, none⟩) 1 [.slice x k d] := by
    refine ⟨rfl, fun _ => ⟨w.heap.size, 0, rfl, by simp, fun j hj => ?_⟩⟩
    obtain rfl : j = 0 := by omega
    simp only [World.cell?, World.alloc_heap_new]
    rfl
  obtain ⟨a', c', w', r, o, b⟩ := run_appL h1 (by have := hb0.size; omega) 1 h2 (fun v hv => by simp at hv; subst hv; rfl) hn
  exact ⟨a', c', w', r, o, (hb0.mono hB).trans b⟩

theorem sizeOfL (w : World) : (sizeOf (Try.prog.elem 49)).run Try.prog w = .ok 1 w := by kernel_rfl

theorem elemL : Try.prog.underlying 49 = some (.slice (Try.prog.elem 49)) := by kernel_rfl

/-- l[k:]. -/
theorem run_cutL {w0 : World} {a : Option Addr} {len cap : Nat} {vs : List Value} (h : HasL w0 a len vs) (hc : len ≤ cap) {l : Nat} (hl : l ≤ len) :
    ∃ a1 c1, (∀ w, (Instr.slice 49 (.slice a len cap) (some (.int .i64 (l : Int))) none none).run Try.prog w = .ok (.slice a1 (len - l) c1) w) ∧ HasL w0 a1 (len - l) (vs.drop l) := by
  refine ⟨cutAt a cap l, cap - l, fun w => ?_, ?_⟩
  · rw [run_slice_l (P := Try.prog) (w := w) 49 a len cap elemL .i64 l (by omega) (by omega), sizeOfL]
    simp only [Result.andThen, sliced]
    have e1 : (l : Int).toNat = l := by omega
    rw [e1]
    simp [cutAt]
  · refine ⟨by simp [h.1], fun hp => ?_⟩
    obtain ⟨b, off, rfl, hb, hcs⟩ := h.2 (by omega)
    refine ⟨b, off + l, ?_, hb, fun j hj => ?_⟩
    · unfold cutAt
      rw [if_neg (by omega), Option.map_some, Nat.mul_one, World.add_zero_spot]
    · rw [Nat.add_assoc, hcs (l + j) (by omega), List.getElem?_drop]

/-- A list of lists of texts, read: each slice with what it holds. -/
def LLI (w : World) (a : Option Addr) (n c : Nat) (zs : List (Value × List (List UInt8))) : Prop :=
  n ≤ c ∧ HasL w a n (zs.map (·.1)) ∧ ∀ z ∈ zs, ∃ b k d, z.1 = .slice b k d ∧ HasS w b k z.2

theorem LLI.below {w w' : World} {a : Option Addr} {n c : Nat} {zs : List (Value × List (List UInt8))} (h : LLI w a n c zs) {m : Nat} (hb : Below m w w') (hm : w.heap.size ≤ m) : LLI w' a n c zs := by
  obtain ⟨h1, h2, h4⟩ := h
  refine ⟨h1, h2.below hb hm, fun z hz => ?_⟩
  obtain ⟨b, k, d, e, hh⟩ := h4 z hz
  exact ⟨b, k, d, e, hh.below hb hm⟩

theorem LLI.len {w : World} {a : Option Addr} {n c : Nat} {zs : List (Value × List (List UInt8))} (h : LLI w a n c zs) : zs.length = n := by
  have := h.2.1.1
  simpa using this

theorem LLI.one {w : World} {a : Option Addr} {n c : Nat} {zs : List (Value × List (List UInt8))} (h : LLI w a n c zs) : ∀ v ∈ zs.map (·.1), v.oneCell' = true := by
  intro v hv
  obtain ⟨z, hz, rfl⟩ := List.mem_map.1 hv
  obtain ⟨b, k, d, e, _⟩ := h.2.2 z hz
  rw [e]; rfl

theorem LLI.cell {w : World} {a : Option Addr} {n c : Nat} {zs : List (Value × List (List UInt8))} (h : LLI w a n c zs) {j : Nat} (hj : j < n) :
    ∃ g o b k d, a = some ⟨g, o, none⟩ ∧ w.cell? ⟨g, o + j, none⟩ = some (.slice b k d) ∧ HasS w b k ((zs.map (·.2))[j]?.getD []) ∧ (zs.map (·.1))[j]? = some (.slice b k d) := by
  have hl := h.len
  obtain ⟨h1, h2, h4⟩ := h
  obtain ⟨g, o, e, _, hc⟩ := h2.2 (by omega)
  have hz : zs[j]? = some zs[j] := List.getElem?_eq_getElem (by omega)
  obtain ⟨b, k, d, e2, hh⟩ := h4 zs[j] (List.getElem_mem _)
  refine ⟨g, o, b, k, d, e, ?_, ?_, ?_⟩
  · rw [hc j hj, List.getElem?_map, hz]
    simp [e2]
  · rw [List.getElem?_map, hz]; exact hh
  · rw [List.getElem?_map, hz]; simp [e2]

/-- The new list: some of the elder one, one more, some of the elder one. -/
theorem LLI.ins {u w : World} {a : Option Addr} {n c : Nat} {zs : List (Value × List (List UInt8))} (h : LLI u a n c zs) (hb : Below u.heap.size u w) {ax : Option Addr} {l cx : Nat} {ns : List (List UInt8)} (hx : HasS u ax l ns) {B : Nat} {a3 : Option Addr} {n3 c3 k k' : Nat}
    (ho : OwnL B w a3 n3 c3 ((zs.map (·.1)).take k ++ [.slice ax l cx] ++ (zs.map (·.1)).drop k')) : LLI w a3 n3 c3 (zs.take k ++ (.slice ax l cx, ns) :: zs.drop k') := by
  refine ⟨ho.2.1, ?_, fun z hz => ?_⟩
  · have := ho.has
    rw [List.map_append, List.map_cons, List.map_take, List.map_drop]
    simpa using this
  · rw [List.mem_append, List.mem_cons] at hz
    have old : ∀ z ∈ zs, ∃ b k d, z.1 = .slice b k d ∧ HasS w b k z.2 := fun z hz => by
      obtain ⟨b, k, d, e, hh⟩ := h.2.2 z hz
      exact ⟨b, k, d, e, hh.below hb (Nat.le_refl _)⟩
    rcases hz with hz | rfl | hz
    · exact old z (List.mem_of_mem_take hz)
    · exact ⟨ax, l, cx, rfl, hx.below hb (Nat.le_refl _)⟩
    · exact old z (List.mem_of_mem_drop hz)

end Go.Proofs.Ytghhlcacnggjhaa
