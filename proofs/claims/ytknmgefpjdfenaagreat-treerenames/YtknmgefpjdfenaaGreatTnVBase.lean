/- Lists of texts in memory: what is read, what is a call's own, append, cuts. -/
import Derived.Test.YtknmgefpjdfenaaGreatTnVMath
namespace Go.Proofs.YtknmgefpjdfenaaGreat
open Go.RowKit Go.Shelf
set_option linter.unusedVariables false
set_option maxRecDepth 100000

def sv (x : List UInt8) : Value := .string (St x)

theorem info9 : (Tryz.prog.info? 9).map (fun i => (i.zero, i.size, i.bytes)) = some (some (.string ByteArray.empty), 1, 16) := by kernel_rfl

theorem oneCell_texts (xs : List (List UInt8)) : ∀ v ∈ xs.map sv, v.oneCell' = true := by
  intro v hv
  obtain ⟨x, _, rfl⟩ := List.mem_map.1 hv
  rfl

/-- A slice reads as these texts. -/
def HasS (w : World) (a : Option Addr) (n : Nat) (xs : List (List UInt8)) : Prop :=
  xs.length = n ∧ (0 < n → ∃ b off, a = some ⟨b, off, none⟩ ∧ b < w.heap.size ∧ ∀ j, j < n → w.cell? ⟨b, off + j, none⟩ = some (sv (xs[j]?.getD [])))

theorem HasS.nil (w : World) (a : Option Addr) : HasS w a 0 [] := ⟨rfl, fun h => by omega⟩

theorem HasS.below {w w' : World} {a : Option Addr} {n : Nat} {xs : List (List UInt8)} (h : HasS w a n xs) {m : Nat} (hb : Below m w w') (hm : w.heap.size ≤ m) : HasS w' a n xs := by
  refine ⟨h.1, fun hp => ?_⟩
  obtain ⟨b, off, e, hl, hc⟩ := h.2 hp
  exact ⟨b, off, e, Nat.lt_of_lt_of_le hl hb.size, fun j hj => (hb.cell (p := ⟨b, off + j, none⟩) (by show b < m; omega)).trans (hc j hj)⟩

theorem HasS.drewN {w : World} {a : Option Addr} {n : Nat} {xs : List (List UInt8)} (h : HasS w a n xs) (q : Nat) : HasS (w.drewN q) a n xs := h

/-- A slice of texts that starts its own row, made since B. -/
def OwnS (B : Nat) (w : World) (a : Option Addr) (n c : Nat) (xs : List (List UInt8)) : Prop :=
  xs.length = n ∧ n ≤ c ∧ c ≤ maxLen ∧ ((a = none ∧ n = 0 ∧ c = 0) ∨ ∃ g cur, a = some ⟨g, 0, none⟩ ∧ B ≤ g ∧ w.heap[g]? = some (.cells cur 9 (0, 0)) ∧ cur.size = c ∧ cur.toList.take n = xs.map sv)

theorem OwnS.nil (B : Nat) (w : World) : OwnS B w none 0 0 [] := ⟨rfl, Nat.le_refl _, by unfold maxLen; omega, .inl ⟨rfl, rfl, rfl⟩⟩

theorem OwnS.kept {B : Nat} {w w' : World} {a : Option Addr} {n c : Nat} {xs : List (List UInt8)} (h : OwnS B w a n c xs) (hk : ∀ g, a = some ⟨g, 0, none⟩ → w'.heap[g]? = w.heap[g]?) : OwnS B w' a n c xs := by
  obtain ⟨h1, h2, h3, h4⟩ := h
  refine ⟨h1, h2, h3, ?_⟩
  rcases h4 with h4 | ⟨g, cur, e, hg, hh, r⟩
  · exact .inl h4
  · exact .inr ⟨g, cur, e, hg, (hk g e).trans hh, r⟩

theorem OwnS.lt {B : Nat} {w : World} {a : Option Addr} {n c : Nat} {xs : List (List UInt8)} (h : OwnS B w a n c xs) {g : Nat} (e : a = some ⟨g, 0, none⟩) : g < w.heap.size ∧ B ≤ g := by
  obtain ⟨_, _, _, h4⟩ := h
  rcases h4 with ⟨h4, _⟩ | ⟨g', cur, e', hg, hh, _⟩
  · rw [h4] at e; cases e
  · rw [e] at e'; cases e'
    exact ⟨(Array.getElem?_eq_some_iff.1 hh).1, hg⟩

theorem OwnS.below {B n : Nat} {w w' : World} {a : Option Addr} {l c : Nat} {xs : List (List UInt8)} (h : OwnS B w a l c xs) (hb : Below n w w') (hn : w.heap.size ≤ n) : OwnS B w' a l c xs :=
  h.kept (fun g e => hb.block g (by have := (h.lt e).1; omega))

theorem OwnS.base {B B' : Nat} {w : World} {a : Option Addr} {l c : Nat} {xs : List (List UInt8)} (h : OwnS B w a l c xs) (hb : B' ≤ B) : OwnS B' w a l c xs := by
  obtain ⟨h1, h2, h3, h4⟩ := h
  refine ⟨h1, h2, h3, ?_⟩
  rcases h4 with h4 | ⟨g, cur, e, hg, r⟩
  · exact .inl h4
  · exact .inr ⟨g, cur, e, by omega, r⟩

theorem OwnS.cell {B : Nat} {w : World} {a : Option Addr} {n c : Nat} {xs : List (List UInt8)} (h : OwnS B w a n c xs) {j : Nat} (hj : j < n) : ∃ g, a = some ⟨g, 0, none⟩ ∧ B ≤ g ∧ g < w.heap.size ∧ w.cell? ⟨g, j, none⟩ = some (sv (xs[j]?.getD [])) ∧ w.frozen? ⟨g, j, none⟩ = false := by
  obtain ⟨h1, h2, h3, h4⟩ := h
  rcases h4 with ⟨_, h4, _⟩ | ⟨g, cur, e, hg, hh, hc, ht⟩
  · omega
  · refine ⟨g, e, hg, (Array.getElem?_eq_some_iff.1 hh).1, ?_, by simp [World.frozen?, hh]⟩
    have hx : (cur.toList.take n)[j]? = some (sv (xs[j]?.getD [])) := by
      rw [ht, List.getElem?_map, List.getElem?_eq_getElem (by omega)]; rfl
    rw [List.getElem?_take_of_lt hj] at hx
    simp only [World.cell?, hh]
    simpa using hx

theorem OwnS.has {B : Nat} {w : World} {a : Option Addr} {n c : Nat} {xs : List (List UInt8)} (h : OwnS B w a n c xs) : HasS w a n xs := by
  refine ⟨h.1, fun hp => ?_⟩
  obtain ⟨g, e, _, hl, _, _⟩ := h.cell (j := 0) hp
  refine ⟨g, 0, e, hl, fun j hj => ?_⟩
  obtain ⟨g', e', _, _, hc, _⟩ := h.cell hj
  rw [e] at e'
  cases e'
  rw [Nat.zero_add]
  exact hc

theorem OwnS.set {B : Nat} {w : World} {g n c : Nat} {xs : List (List UInt8)} (h : OwnS B w (some ⟨g, 0, none⟩) n c xs) (j : Nat) (z : List UInt8) : OwnS B (w.setCell ⟨g, j, none⟩ (sv z)) (some ⟨g, 0, none⟩) n c (xs.set j z) := by
  obtain ⟨h1, h2, h3, h4⟩ := h
  rcases h4 with ⟨h4, _⟩ | ⟨g', cur, e, hg, hh, hc, ht⟩
  · cases h4
  · cases e
    refine ⟨by simp [h1], h2, h3, .inr ⟨g, _, rfl, hg, by rw [setCell_eq_setRow w g j _ 9 (0, 0) _ hh]; exact setRow_heap w g _ _ 9 _ hh, by simpa using hc, ?_⟩⟩
    rw [Array.toList_setIfInBounds, List.take_set, ht, List.map_set]

theorem OwnS.owns {B : Nat} {w : World} {a : Option Addr} {n c : Nat} {xs : List (List UInt8)} (h : OwnS B w a n c xs) : w.ownsRow B 9 1 (.slice a n c) n (xs.map sv) := by
  obtain ⟨h1, h2, h3, h4⟩ := h
  refine ⟨by simp [h1], ?_⟩
  rcases h4 with ⟨rfl, rfl, rfl⟩ | ⟨g, cur, rfl, hg, hh, hc, ht⟩
  · exact .inl ⟨rfl, rfl⟩
  · exact .inr ⟨g, c, cur, rfl, hg, hh, h2, h3, by simpa using hc, by simpa using ht⟩

theorem OwnS.of_owns {B : Nat} {w : World} {v : Value} {n : Nat} {xs : List (List UInt8)} (h : w.ownsRow B 9 1 v n (xs.map sv)) : ∃ a c, v = .slice a n c ∧ OwnS B w a n c xs := by
  obtain ⟨h1, h2⟩ := h
  have hl : xs.length = n := by simpa using h1
  rcases h2 with ⟨rfl, rfl⟩ | ⟨g, cap, cur, rfl, hg, hh, h2, h3, hc, ht⟩
  · exact ⟨none, 0, rfl, hl, Nat.le_refl _, by unfold maxLen; omega, .inl ⟨rfl, rfl, rfl⟩⟩
  · exact ⟨_, cap, rfl, hl, h2, h3, .inr ⟨g, cur, rfl, hg, hh, by simpa using hc, by simpa using ht⟩⟩

theorem appS_nothing (w : World) (ty : TypeId) (a a2 : Option Addr) (n c c2 : Nat) (hn : n ≤ c) (ha : a = none → n = 0 ∧ c = 0) : (Builtin.append_ #[103, 103] ty #[.slice a n c, .slice a2 0 c2]).run Tryz.prog w = .ok (.slice a n c) w := by
  obtain ⟨i0, hi, hz0, hz1, hz2⟩ := info_parts info9
  cases a with
  | none =>
    obtain ⟨rfl, rfl⟩ := ha rfl
    cases a2 <;> simp [Builtin.append_, run_underlying Tryz.underlying103, sizeOf, typeInfo, hi, Builtin.lenOf, Builtin.firstCells, loadCells, loadCellsFrom]
  | some x => cases a2 <;> simp [Builtin.append_, run_underlying Tryz.underlying103, sizeOf, typeInfo, hi, Builtin.lenOf, Builtin.firstCells, storeCells, loadCells, loadCellsFrom, hn]

/-- **append(x, y...)**, x a row of the call's own. -/
theorem run_appS {B : Nat} {w : World} {a : Option Addr} {n c : Nat} {xs : List (List UInt8)} (h : OwnS B w a n c xs) (hB : B ≤ w.heap.size) {a2 : Option Addr} {m : Nat} {ys : List (List UInt8)} (c2 : Nat) (h2 : HasS w a2 m ys) (hn : n + m ≤ 8796093022208) :
    ∃ a' c' w', (∀ ty, (Builtin.append_ #[103, 103] ty #[.slice a n c, .slice a2 m c2]).run Tryz.prog w = .ok (.slice a' (n + m) c') w') ∧ OwnS B w' a' (n + m) c' (xs ++ ys) ∧
      (∀ k, k < w.heap.size → (∀ g, a = some ⟨g, 0, none⟩ → k ≠ g) → w'.heap[k]? = w.heap[k]?) ∧ Below B w w' := by
  obtain ⟨i0, hi, hz0, hz1, hz2⟩ := info_parts info9
  by_cases h0 : m = 0
  · subst h0
    obtain rfl : ys = [] := List.eq_nil_of_length_eq_zero h2.1
    refine ⟨a, c, w, fun ty => appS_nothing w ty a a2 n c c2 h.2.1 (fun e => ?_), by rw [List.append_nil]; exact h, fun _ _ _ => rfl, Below.refl _ _⟩
    rcases h.2.2.2 with ⟨_, e1, e2⟩ | ⟨g, _, e', _⟩
    · exact ⟨e1, e2⟩
    · rw [e] at e'; cases e'
  · obtain ⟨b, off, rfl, _, hc⟩ := h2.2 (by omega)
    have hl := h2.1
    have hnews : ∀ (j : Nat) (u : Value), (ys.map sv)[j]? = some u → w.cell? ((⟨b, off, none⟩ : Addr).add j) = some u := by
      intro j u hj
      have hjl : j < m := by have := (List.getElem?_eq_some_iff.1 hj).1; simp at this; omega
      rw [World.add_zero_spot, hc j hjl]
      rw [List.getElem?_map, List.getElem?_eq_getElem (by omega)] at hj
      rw [List.getElem?_eq_getElem (by omega)]
      simpa using hj
    have hmax : n + m ≤ maxLen := by unfold maxLen; omega
    obtain ⟨v', w', hr, ho, hg, _⟩ := run_append_own (P := Tryz.prog) w B 103 0 9 i0 (.string ByteArray.empty) 1 16 Tryz.underlying103 hi hz0 hz1 hz2 rfl (by decide) (.slice a n c) n _ h.owns ⟨b, off, none⟩ m c2 (ys.map sv) (by simp [hl]) hnews (oneCell_texts ys) hmax (by omega) hB
    rw [← List.map_append] at ho
    obtain ⟨a', c', rfl, ho'⟩ := OwnS.of_owns ho
    refine ⟨a', c', w', fun ty => hr, ho', fun k hk hne => ?_, ?_⟩
    · refine hg.block k hk (fun e => ?_)
      rcases h.2.2.2 with ⟨ha, _, _⟩ | ⟨g, _, ha, _⟩
      · rw [ha] at e; simp [Value.ownBlock] at e
      · rw [ha] at e
        simp [Value.ownBlock] at e
        exact hne g ha e
    · refine (Below.refl B w).grown hg hB (fun k e => ?_)
      rcases h.2.2.2 with ⟨ha, _, _⟩ | ⟨g, _, ha, hgB, _⟩
      · rw [ha] at e; simp [Value.ownBlock] at e
      · rw [ha] at e
        simp [Value.ownBlock] at e
        omega

theorem HasS.cut {w : World} {a : Option Addr} {len : Nat} {zs : List (List UInt8)} (h : HasS w a len zs) {cap l k : Nat} (hc : len ≤ cap) (hl : l + k ≤ len) : HasS w (cutAt a cap l) k ((zs.drop l).take k) := by
  refine ⟨by simp [h.1]; omega, fun hp => ?_⟩
  obtain ⟨b, off, rfl, hb, hcs⟩ := h.2 (by omega)
  refine ⟨b, off + l, ?_, hb, fun j hj => ?_⟩
  · unfold cutAt
    rw [if_neg (by omega), Option.map_some, Nat.mul_one, World.add_zero_spot]
  · rw [Nat.add_assoc, hcs (l + j) (by omega), List.getElem?_take_of_lt hj, List.getElem?_drop]

theorem sizeOf9 (w : World) : (sizeOf (Tryz.prog.elem 103)).run Tryz.prog w = .ok 1 w := by kernel_rfl

theorem elemS : Tryz.prog.underlying 103 = some (.slice (Tryz.prog.elem 103)) := by kernel_rfl

theorem run_cutS_h (a : Option Addr) (len cap k : Nat) (h : k ≤ cap) (w : World) :
    (Instr.slice 103 (.slice a len cap) none (some (.int .i64 (k : Int))) none).run Tryz.prog w = .ok (.slice (cutAt a cap 0) k cap) w := by
  rw [run_slice_h (P := Tryz.prog) (w := w) 103 a len cap elemS .i64 k (by omega) (by omega), sizeOf9]
  simp only [Result.andThen, sliced]
  have e1 : (k : Int).toNat = k := by omega
  rw [e1]
  simp [cutAt]

theorem cutAt_zero (a : Option Addr) (cap : Nat) : cutAt a cap 0 = a := by
  unfold cutAt
  split
  · rfl
  · cases a with
    | none => rfl
    | some x => simp [Addr.add]

theorem HasS.take {w : World} {a : Option Addr} {len : Nat} {zs : List (List UInt8)} (h : HasS w a len zs) {k : Nat} (hk : k ≤ len) : HasS w a k (zs.take k) := by
  refine ⟨by simp [h.1]; omega, fun hp => ?_⟩
  obtain ⟨b, off, rfl, hb, hcs⟩ := h.2 (by omega)
  exact ⟨b, off, rfl, hb, fun j hj => by rw [hcs j (by omega), List.getElem?_take_of_lt hj]⟩

theorem HasS.cell {w : World} {a : Option Addr} {len : Nat} {zs : List (List UInt8)} (h : HasS w a len zs) {j : Nat} (hj : j < len) : ∃ b off, a = some ⟨b, off, none⟩ ∧ w.cell? ⟨b, off + j, none⟩ = some (sv (zs[j]?.getD [])) := by
  obtain ⟨b, off, e, _, hc⟩ := h.2 (by omega)
  exact ⟨b, off, e, hc j hj⟩

end Go.Proofs.YtknmgefpjdfenaaGreat
