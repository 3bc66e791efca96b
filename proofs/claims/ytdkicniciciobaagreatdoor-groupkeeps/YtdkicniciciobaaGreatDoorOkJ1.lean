/- Joined: GBase, DCopy, Fol, GApart, GApartF, GApp, GCheck, GI, CFit. -/
import Derived.Test.YtdkicniciciobaaGreatDoorRows
import Derived.WalkKit
import Derived.WalkSpells
import Derived.WalkLawsBesides
import Derived.RangeFuncBox
import Derived.Shelf.Abstract
import Derived.Laws.CopyOwn
import Derived.Deep.OwnRows
import Derived.Laws.BytesArg
import Derived.Laws.BitsAllLaws
import Derived.ArgAppend
import Derived.Deep.RegionWith
import Derived.Deep.QuietTactic
import Derived.BigQuiet
import Derived.Lib.BufferWrite
import Derived.Test.YtdkicniciciobaaGreatDoorOkSum
/- Words and laws on slices of bytes, of no function of the program. -/
namespace Go.Proofs.YtdkicniciciobaaGreatDoor
open Go.RowKit Go.Shelf
set_option linter.unusedVariables false

theorem hide {p : Prop} (h : p) : Hid p := h

theorem unhide {p : Prop} (h : Hid p) : p := h

theorem ret_int {k : IntKind} {a b : Int} (h : a = b) : Ending.returned (.int k a) = .returned (.int k b) := by rw [h]

theorem ret_two {k k' : IntKind} {a b c d : Int} (h : a = b) (h' : c = d) : Ending.returned (.tuple #[.int k a, .int k' c]) = .returned (.tuple #[.int k b, .int k' d]) := by rw [h, h']

theorem ret_put {sv : Value} {c d : Int} (h' : c = d) : Ending.returned (.tuple #[sv, .int .i64 c]) = .returned (.tuple #[sv, .int .i64 d]) := by rw [h']

theorem ret_bool {a b : Bool} (h : a = b) : Ending.returned (.bool a) = .returned (.bool b) := by rw [h]

theorem info5 : (Tryz.prog.info? 5).map (fun i => (i.zero, i.size, i.bytes)) = some (some (.int .u8 0), 1, 1) := by kernel_rfl

theorem size5 : (Tryz.prog.info? 5).map (·.size) = some 1 := by kernel_rfl

theorem oneCell_bytes (zs : List Int) : ∀ v ∈ zs.map (Value.int .u8), v.oneCell' = true := by
  intro v hv
  simp only [List.mem_map] at hv
  obtain ⟨z, _, rfl⟩ := hv
  rfl

theorem World.add_zero_spot (b off j : Nat) : (⟨b, off, none⟩ : Addr).add j = ⟨b, off + j, none⟩ := by unfold Addr.add; split <;> simp_all

theorem info22 : (Tryz.prog.info? 49).map (fun i => (i.zero, i.size, i.bytes)) = some (some (.slice none 0 0), 1, 24) := by kernel_rfl

def put (zs : List Int) (at' : Nat) (ds : List Int) : List Int := zs.take at' ++ ds ++ zs.drop (at' + ds.length)

theorem put_other (zs : List Int) (at' : Nat) (ds : List Int) (i : Nat) (h : at' + ds.length ≤ zs.length) (hi : i < at' ∨ at' + ds.length ≤ i) : (put zs at' ds)[i]? = zs[i]? := by
  have h1 : (zs.take at').length = at' := by simp; omega
  rw [put]
  rcases hi with hi | hi
  · rw [List.append_assoc, List.getElem?_append_left (by omega), List.getElem?_take_of_lt hi]
  · rw [List.getElem?_append_right (by simp; omega), List.getElem?_drop]
    congr 1
    simp; omega

def Row (n0 : Nat) (w : World) (a : Option Addr) (len cap : Nat) (zs : List Int) : Prop :=
  zs.length = len ∧ len ≤ cap ∧ (len ≤ 140737488351232 ∧ cap ≤ 9223372036854775807) ∧ (∀ z ∈ zs, 0 ≤ z ∧ z ≤ 255) ∧
  (0 < len → ∃ b off, a = some ⟨b, off, none⟩ ∧ b < n0 ∧ ∀ j, j < len → w.cell? ⟨b, off + j, none⟩ = some (.int .u8 (zs[j]?.getD 0)))

theorem Row.below {n0 : Nat} {w w' : World} {a : Option Addr} {len cap : Nat} {zs : List Int} (h : Row n0 w a len cap zs) (hb : Below n0 w w') {n1 : Nat} (hn : n0 ≤ n1) : Row n1 w' a len cap zs := by
  obtain ⟨h1, h2, h3, h4, h5⟩ := h
  refine ⟨h1, h2, h3, h4, fun hp => ?_⟩
  obtain ⟨b, off, e, hlt, hc⟩ := h5 hp
  exact ⟨b, off, e, by omega, fun j hj => (hb.cell (p := ⟨b, off + j, none⟩) hlt).trans (hc j hj)⟩

theorem Row.alloc {w : World} {a : Option Addr} {len cap : Nat} {zs : List Int} (h : Row w.heap.size w a len cap zs) (o : Obj) : Row (w.alloc o).heap.size (w.alloc o) a len cap zs :=
  h.below ((Below.refl _ w).alloc (Nat.le_refl _) o) (by simp)

def Block (w : World) (g : Nat) (zs : List Int) : Prop := w.heap[g]? = some (.cells (zs.map (Value.int .u8)).toArray 5 (0, 0))

theorem heap_kept {W W' : World} {row : Option Nat} {k : Nat} {c : Array Value} {t : TypeId} {fr : Nat × Nat} (hs : W.heap[k]? = some (.cells c t fr)) (hg : W.grownBy W' row) (hr : ∀ r, row = some r → ∃ o : Obj, W.heap[r]? = some o ∧ o.isCells = false) : W'.heap[k]? = some (.cells c t fr) := by
  have hlt : k < W.heap.size := (Array.getElem?_eq_some_iff.1 hs).1
  rw [hg.block k hlt (fun e => ?_)]
  · exact hs
  · obtain ⟨o, h1, h2⟩ := hr k e.symm
    rw [hs] at h1
    cases h1
    simp [Obj.isCells] at h2

theorem cell_box {W : World} {k : Nat} {v : Value} {t : TypeId} (h : W.heap[k]? = some (.cells #[v] t (0, 0))) : W.cell? ⟨k, 0, none⟩ = some v := by simp [World.cell?, h]

theorem Block.cell {W : World} {g : Nat} {zs : List Int} (h : Block W g zs) {i : Nat} (hi : i < zs.length) : W.cell? ⟨g, i, none⟩ = some (.int .u8 (zs[i]?.getD 0)) := by
  unfold Block at h
  simp [World.cell?, h, hi]

theorem Block.free {W : World} {g : Nat} {zs : List Int} (h : Block W g zs) (i : Nat) : W.frozen? ⟨g, i, none⟩ = false := by
  unfold Block at h
  simp [World.frozen?, h]

theorem Block.set {W : World} {g : Nat} {zs : List Int} (h : Block W g zs) (i : Nat) (z : Int) : Block (W.setCell ⟨g, i, none⟩ (.int .u8 z)) g (zs.set i z) := by
  unfold Block at *
  have hlt : g < W.heap.size := (Array.getElem?_eq_some_iff.1 h).1
  rw [setCell_eq_setRow W g i _ 5 (0, 0) _ h, setRow_heap W g _ _ 5 _ h]
  simp [List.map_set]

theorem Block.lt {W : World} {g : Nat} {zs : List Int} (h : Block W g zs) : g < W.heap.size := (Array.getElem?_eq_some_iff.1 h).1

theorem Block.below {W W' : World} {g n : Nat} {zs : List Int} (h : Block W g zs) (hb : Below n W W') (hg : g < n) : Block W' g zs := (hb.block g hg).trans h

theorem Block.row {w : World} {g : Nat} {zs : List Int} (h : Block w g zs) {len : Nat} (hl : zs.length = len) (hc : len ≤ 140737488351232) (hby : ∀ z ∈ zs, 0 ≤ z ∧ z ≤ 255) : Row w.heap.size w (some ⟨g, 0, none⟩) len len zs :=
  ⟨hl, Nat.le_refl _, ⟨hc, by omega⟩, hby, fun _ => ⟨g, 0, rfl, h.lt, fun j hj => by rw [Nat.zero_add]; exact h.cell (by omega)⟩⟩

def Has (w : World) (a : Option Addr) (len : Nat) (zs : List Int) : Prop :=
  zs.length = len ∧ (0 < len → ∃ b off, a = some ⟨b, off, none⟩ ∧ ∀ j, j < len → w.cell? ⟨b, off + j, none⟩ = some (.int .u8 (zs[j]?.getD 0)))

theorem Row.has {n0 : Nat} {w : World} {a : Option Addr} {len cap : Nat} {zs : List Int} (h : Row n0 w a len cap zs) : Has w a len zs :=
  ⟨h.1, fun hp => by obtain ⟨b, off, e, _, hc⟩ := h.2.2.2.2 hp; exact ⟨b, off, e, hc⟩⟩

theorem Block.has {w : World} {g : Nat} {zs : List Int} (h : Block w g zs) {len : Nat} (hl : zs.length = len) : Has w (some ⟨g, 0, none⟩) len zs :=
  ⟨hl, fun _ => ⟨g, 0, rfl, fun j hj => by rw [Nat.zero_add]; exact h.cell (by omega)⟩⟩

theorem Has.conv {w : World} {a : Option Addr} {len : Nat} {zs : List Int} (h : Has w a len zs) (cap : Nat) : (convert 49 9 (.slice a len cap)).run Tryz.prog w = .ok (.string (strOfNums zs)) w := by
  by_cases h0 : len = 0
  · subst h0
    have hz : zs = [] := List.eq_nil_of_length_eq_zero h.1
    subst hz
    rw [run_convert_bytes_string w 49 9 5 _ 0 cap Tryz.underlying49 Tryz.underlying5 Tryz.underlying9]
    cases a <;> simp [Conv.bytesToString, loadCells]
    all_goals rfl
  · obtain ⟨b, off, rfl, hc⟩ := h.2 (by omega)
    exact run_convert_bytes_arg w 49 5 Tryz.underlying49 Tryz.underlying5 b off len cap zs h.1 (fun i hi => by rw [hc i hi]; simp) 9 Tryz.underlying9

theorem Has.drewN {w : World} {a : Option Addr} {len : Nat} {zs : List Int} (h : Has w a len zs) (n : Nat) : Has (w.drewN n) a len zs := h

def Owns (w : World) (g len : Nat) (zs : List Int) : Prop := zs.length = len ∧ ∃ cur, w.heap[g]? = some (.cells cur 5 (0, 0)) ∧ cur.toList.take len = zs.map (Value.int .u8)

theorem Owns.lt {w : World} {g len : Nat} {zs : List Int} (h : Owns w g len zs) : g < w.heap.size := by obtain ⟨_, cur, hg, _⟩ := h; exact (Array.getElem?_eq_some_iff.1 hg).1

theorem Owns.cell {w : World} {g len : Nat} {zs : List Int} (h : Owns w g len zs) {i : Nat} (hi : i < len) : w.cell? ⟨g, i, none⟩ = some (.int .u8 (zs[i]?.getD 0)) := by
  obtain ⟨hl, cur, hg, ht⟩ := h
  have h1 : (cur.toList.take len)[i]? = some (.int .u8 (zs[i]?.getD 0)) := by
    rw [ht, List.getElem?_map, List.getElem?_eq_getElem (by omega)]; rfl
  rw [List.getElem?_take_of_lt hi] at h1
  simp only [World.cell?, hg]
  simpa using h1

theorem Owns.has {w : World} {g len : Nat} {zs : List Int} (h : Owns w g len zs) : Has w (some ⟨g, 0, none⟩) len zs :=
  ⟨h.1, fun _ => ⟨g, 0, rfl, fun j hj => by rw [Nat.zero_add]; exact h.cell hj⟩⟩

theorem wpList_append_run {w w' : World} {ops : Array Oper} {rest : List Oper} {o : Oper} {a : Act} {Q : Exit → Act → World → Prop} (t : TypeId) (hgd : o.guard = none) (d s : Operand)
    (ho : o.op = .call { callee := .builtin .append, args := #[d, s], argTypes := #[t, t] }) (v x v' : Value) (hd : a.eval d = v) (hs : a.eval s = x)
    (hrun : ∀ ty, (Builtin.append_ #[t, t] ty #[v, x]).run Tryz.prog w = .ok v' w')
    (h : wpList Tryz.prog ops Q rest (a.put o.dst v') w') : wpList Tryz.prog ops Q (o :: rest) a w := by
  refine wpList_plain hgd fun K hK => ?_
  have hr := hrun o.type
  unfold Oper.wp
  simp [execOp, ho, resolve, invoke, builtin, hd, hs, hr, Result.andThen]
  exact hK _ _ h

def cutAt (a : Option Addr) (cap l : Nat) : Option Addr := if cap = l then a else a.map (·.add (l * 1))

theorem Has.cut {w : World} {a : Option Addr} {len : Nat} {zs : List Int} (h : Has w a len zs) {cap l k : Nat} (hc : len ≤ cap) (hl : l + k ≤ len) : Has w (cutAt a cap l) k ((zs.drop l).take k) := by
  refine ⟨by simp [h.1]; omega, fun hp => ?_⟩
  obtain ⟨b, off, rfl, hcs⟩ := h.2 (by omega)
  refine ⟨b, off + l, ?_, fun j hj => ?_⟩
  · unfold cutAt
    rw [if_neg (by omega), Option.map_some, Nat.mul_one, World.add_zero_spot]
  · rw [Nat.add_assoc, hcs (l + j) (by omega), List.getElem?_take_of_lt hj, List.getElem?_drop]

theorem sizeOf5 (w : World) : (sizeOf (Tryz.prog.elem 49)).run Tryz.prog w = .ok 1 w := by kernel_rfl

theorem elem22 : Tryz.prog.underlying 49 = some (.slice (Tryz.prog.elem 49)) := by kernel_rfl

theorem run_cut_l (a : Option Addr) (len cap l : Nat) (h : l ≤ len) (w : World) :
    (Instr.slice 49 (.slice a len cap) (some (.int .i64 (l : Int))) none none).run Tryz.prog w = .ok (.slice (cutAt a cap l) (len - l) (cap - l)) w := by
  rw [run_slice_l (P := Tryz.prog) (w := w) 49 a len cap elem22 .i64 l (by omega) (by omega), sizeOf5]
  simp only [Result.andThen, sliced]
  have e1 : (l : Int).toNat = l := by omega
  rw [e1]
  simp [cutAt]

theorem run_cut_h (a : Option Addr) (len cap k : Nat) (h : k ≤ cap) (w : World) :
    (Instr.slice 49 (.slice a len cap) none (some (.int .i64 (k : Int))) none).run Tryz.prog w = .ok (.slice (cutAt a cap 0) k cap) w := by
  rw [run_slice_h (P := Tryz.prog) (w := w) 49 a len cap elem22 .i64 k (by omega) (by omega), sizeOf5]
  simp only [Result.andThen, sliced]
  have e1 : (k : Int).toNat = k := by omega
  rw [e1]
  simp [cutAt]

theorem cut_h {w : World} {a : Option Addr} {len : Nat} {zs : List Int} (h : Has w a len zs) {cap k : Nat} (hc : len ≤ cap) (hk : k ≤ len) :
    ∃ a1 c1, (∀ w, (Instr.slice 49 (.slice a len cap) none (some (.int .i64 (k : Int))) none).run Tryz.prog w = .ok (.slice a1 k c1) w) ∧ k ≤ c1 ∧ Has w a1 k (zs.take k) := by
  refine ⟨_, _, fun w => run_cut_h a len cap k (by omega) w, by omega, ?_⟩
  have := h.cut hc (l := 0) (k := k) (by omega)
  simpa using this

def Own (B : Nat) (w : World) (a : Option Addr) (n c : Nat) (xs : List Int) : Prop :=
  xs.length = n ∧ n ≤ c ∧ c ≤ maxLen ∧ ((a = none ∧ n = 0 ∧ c = 0) ∨ ∃ g cur, a = some ⟨g, 0, none⟩ ∧ B ≤ g ∧ w.heap[g]? = some (.cells cur 5 (0, 0)) ∧ cur.size = c ∧ cur.toList.take n = xs.map (Value.int .u8))

theorem Own.kept {B : Nat} {w w' : World} {a : Option Addr} {n c : Nat} {xs : List Int} (h : Own B w a n c xs) (hk : ∀ g, a = some ⟨g, 0, none⟩ → w'.heap[g]? = w.heap[g]?) : Own B w' a n c xs := by
  obtain ⟨h1, h2, h3, h4⟩ := h
  refine ⟨h1, h2, h3, ?_⟩
  rcases h4 with h4 | ⟨g, cur, e, hg, hh, r⟩
  · exact .inl h4
  · exact .inr ⟨g, cur, e, hg, (hk g e).trans hh, r⟩

theorem Own.cell {B : Nat} {w : World} {a : Option Addr} {n c : Nat} {xs : List Int} (h : Own B w a n c xs) {j : Nat} (hj : j < n) : ∃ g, a = some ⟨g, 0, none⟩ ∧ B ≤ g ∧ w.cell? ⟨g, j, none⟩ = some (.int .u8 (xs[j]?.getD 0)) ∧ w.frozen? ⟨g, j, none⟩ = false := by
  obtain ⟨h1, h2, h3, h4⟩ := h
  rcases h4 with ⟨_, h4, _⟩ | ⟨g, cur, e, hg, hh, hc, ht⟩
  · omega
  · refine ⟨g, e, hg, ?_, by simp [World.frozen?, hh]⟩
    have hx : (cur.toList.take n)[j]? = some (.int .u8 (xs[j]?.getD 0)) := by
      rw [ht, List.getElem?_map, List.getElem?_eq_getElem (by omega)]; rfl
    rw [List.getElem?_take_of_lt hj] at hx
    simp only [World.cell?, hh]
    simpa using hx

theorem Own.set {B : Nat} {w : World} {g n c : Nat} {xs : List Int} (h : Own B w (some ⟨g, 0, none⟩) n c xs) (j : Nat) (z : Int) : Own B (w.setCell ⟨g, j, none⟩ (.int .u8 z)) (some ⟨g, 0, none⟩) n c (xs.set j z) := by
  obtain ⟨h1, h2, h3, h4⟩ := h
  rcases h4 with ⟨h4, _⟩ | ⟨g', cur, e, hg, hh, hc, ht⟩
  · cases h4
  · cases e
    refine ⟨by simp [h1], h2, h3, .inr ⟨g, _, rfl, hg, by rw [setCell_eq_setRow w g j _ 5 (0, 0) _ hh]; exact setRow_heap w g _ _ 5 _ hh, by simpa using hc, ?_⟩⟩
    rw [Array.toList_setIfInBounds, List.take_set, ht, List.map_set]

theorem run_append_byte (B : Nat) (w : World) (ty : TypeId) (a : Option Addr) (n c : Nat) (xs : List Int) (h : Own B w a n c xs) (hB : B ≤ w.heap.size) (nb : Nat) (z : Int) (hz : w.cell? ⟨nb, 0, none⟩ = some (.int .u8 z)) (hn : n + 1 ≤ 140737488355328) :
    ∃ a' c' w', (Builtin.append_ #[49, 49] ty #[.slice a n c, .slice (some ⟨nb, 0, none⟩) 1 1]).run Tryz.prog w = .ok (.slice a' (n + 1) c') w' ∧ Own B w' a' (n + 1) c' (xs ++ [z]) ∧
      (∀ k, k < w.heap.size → (∀ g, a = some ⟨g, 0, none⟩ → k ≠ g) → w'.heap[k]? = w.heap[k]?) ∧ Below B w w' ∧
      ((a' = a ∧ c' = c ∧ ∀ m, m ≤ n → Own B w' a m c (xs.take m)) ∨ (∃ g', a' = some ⟨g', 0, none⟩ ∧ w.heap.size ≤ g' ∧ ∀ k, k < w.heap.size → w'.heap[k]? = w.heap[k]?)) := by
  obtain ⟨i0, hi, hz0, hz1, hz2⟩ := info_parts info5
  have hnews : ∀ (j : Nat) (u : Value), [Value.int .u8 z][j]? = some u → w.cell? ((⟨nb, 0, none⟩ : Addr).add j) = some u := by
    intro j u hj
    cases j with
    | zero => simp at hj; subst hj; simpa [Addr.add] using hz
    | succ j => simp at hj
  have h1c : ∀ u ∈ [Value.int .u8 z], u.oneCell' = true := by intro u hu; simp at hu; subst hu; rfl
  have hmax : n + 1 ≤ maxLen := by unfold maxLen; omega
  obtain ⟨h1, h2, h3, h4⟩ := h
  have growCase : c < n + 1 → ∀ (v : Value) (w' : World), w'.ownsRow w.heap.size 5 1 v (n + 1) (xs.map (Value.int .u8) ++ [Value.int .u8 z]) → w.grownBy w' none →
      ∃ a' c', v = .slice a' (n + 1) c' ∧ Own B w' a' (n + 1) c' (xs ++ [z]) ∧ (∀ k, k < w.heap.size → (∀ g, a = some ⟨g, 0, none⟩ → k ≠ g) → w'.heap[k]? = w.heap[k]?) ∧ Below B w w' ∧
        (∃ g', a' = some ⟨g', 0, none⟩ ∧ w.heap.size ≤ g' ∧ ∀ k, k < w.heap.size → w'.heap[k]? = w.heap[k]?) := by
    intro hc v w' ho hg
    have hb : ∀ k, k < w.heap.size → w'.heap[k]? = w.heap[k]? := fun k hk => hg.block k hk (by simp)
    rcases ho.2 with ⟨_, h0⟩ | ⟨g', cap', cur, rfl, hbg, hh, hnc, hcm, hcs, ht⟩
    · omega
    · refine ⟨some ⟨g', 0, none⟩, cap', rfl, ⟨by simp [h1], hnc, hcm, .inr ⟨g', cur, rfl, by omega, hh, by simpa using hcs, by simpa using ht⟩⟩, fun k hk _ => hb k hk, ⟨hg.os, hg.tape, hg.output, hg.size, fun k hk => hb k (by omega)⟩, g', rfl, hbg, hb⟩
  rcases h4 with ⟨rfl, rfl, rfl⟩ | ⟨g, cur, rfl, hg, hh, hc, ht⟩
  · have hx : xs = [] := List.eq_nil_of_length_eq_zero h1
    subst hx
    obtain ⟨v, w', hr, ho, hgr, _⟩ := run_append_own (P := Tryz.prog) w w.heap.size 49 ty 5 i0 (.int .u8 0) 1 1 Tryz.underlying49 hi hz0 hz1 hz2 rfl (by decide) (.slice none 0 0) 0 [] (World.ownsRow_nil w _ 5 1) ⟨nb, 0, none⟩ 1 1 [Value.int .u8 z] rfl hnews h1c hmax (by omega) (Nat.le_refl _)
    obtain ⟨a', c', rfl, k1, k2, k3, k4⟩ := growCase (by omega) v w' (by simpa using ho) (by simpa [Value.ownBlock] using hgr)
    exact ⟨a', c', w', hr, k1, k2, k3, .inr k4⟩
  · have holds : ∀ (j : Nat) (u : Value), (xs.map (Value.int .u8))[j]? = some u → w.cell? ((⟨g, 0, none⟩ : Addr).add j) = some u := by
      intro j u hj
      rw [World.add_zero_spot, Nat.zero_add]
      have hjl : j < n := by have := (List.getElem?_eq_some_iff.1 hj).1; simp at this; omega
      rw [← ht, List.getElem?_take_of_lt hjl] at hj
      simp only [World.cell?, hh]
      simpa using hj
    by_cases hroom : n + 1 ≤ c
    · have hr := run_append_room (P := Tryz.prog) w 49 ty 5 i0 Tryz.underlying49 hi g n c cur hh ⟨nb, 0, none⟩ 1 1 [Value.int .u8 z] (by rw [hz1]; rfl) hnews h1c hroom (by rw [hz1, hc]; simp; omega)
      refine ⟨_, c, _, hr, ?_, ?_, below_setRow (Below.refl _ _) hg _, .inl ⟨rfl, rfl, ?_⟩⟩
      · refine ⟨by simp [h1], hroom, h3, .inr ⟨g, _, rfl, hg, setRow_heap w g cur _ 5 _ hh, ?_, ?_⟩⟩
        · simp [hz1]; omega
        · rw [hz1, Nat.mul_one, ht]
          have hl : (xs.map (Value.int .u8) ++ [Value.int .u8 z]).length = n + 1 := by simp [h1]
          rw [List.toList_toArray, List.take_append_of_le_length (by omega), List.take_of_length_le (by omega)]
          simp
      · intro k _ hk
        exact setRow_other w g k _ (hk g rfl)
      · intro m hm
        refine ⟨by simp; omega, by omega, h3, .inr ⟨g, _, rfl, hg, setRow_heap w g cur _ 5 _ hh, ?_, ?_⟩⟩
        · simp [hz1]; omega
        · rw [hz1, Nat.mul_one, ht, List.append_assoc]
          rw [List.toList_toArray, List.take_append_of_le_length (by simp; omega), List.map_take]
    · obtain ⟨v, w', hr, ho, hgr⟩ := run_append_arg_grows (P := Tryz.prog) w 49 ty 5 i0 (.int .u8 0) 1 1 Tryz.underlying49 hi hz0 hz1 hz2 rfl (by decide) ⟨g, 0, none⟩ n c (xs.map (Value.int .u8)) (by simp [h1]) holds ⟨nb, 0, none⟩ 1 1 [Value.int .u8 z] rfl hnews (by omega) hmax (by omega)
      obtain ⟨a', c', rfl, k1, k2, k3, k4⟩ := growCase (by omega) v w' ho hgr
      exact ⟨a', c', w', hr, k1, k2, k3, .inr k4⟩

theorem Own.lt {B : Nat} {w : World} {a : Option Addr} {n c : Nat} {xs : List Int} (h : Own B w a n c xs) {g : Nat} (e : a = some ⟨g, 0, none⟩) : g < w.heap.size ∧ B ≤ g ∧ ∃ cur, w.heap[g]? = some (.cells cur 5 (0, 0)) := by
  obtain ⟨_, _, _, h4⟩ := h
  rcases h4 with ⟨h4, _⟩ | ⟨g', cur, e', hg, hh, _⟩
  · rw [h4] at e; cases e
  · rw [e] at e'; cases e'
    exact ⟨(Array.getElem?_eq_some_iff.1 hh).1, hg, cur, hh⟩

theorem ownsRow_block {w w' : World} {B e size n : Nat} {v : Value} {xs : List Value} (h : w.ownsRow B e size v n xs) (hk : ∀ g cur, B ≤ g → w.heap[g]? = some (.cells cur e (0, 0)) → w'.heap[g]? = w.heap[g]?) : w'.ownsRow B e size v n xs := by
  obtain ⟨h1, h2⟩ := h
  refine ⟨h1, ?_⟩
  rcases h2 with h2 | ⟨g, cap, cur, rfl, hb, hh, r⟩
  · exact .inl h2
  · exact .inr ⟨g, cap, cur, rfl, hb, (hk g cur hb hh).trans hh, r⟩

theorem Own.below {B n : Nat} {w w' : World} {a : Option Addr} {l c : Nat} {xs : List Int} (h : Own B w a l c xs) (hb : Below n w w') (hn : w.heap.size ≤ n) : Own B w' a l c xs :=
  h.kept (fun g e => hb.block g (by have := (h.lt e).1; omega))

theorem Own.base {B B' : Nat} {w : World} {a : Option Addr} {l c : Nat} {xs : List Int} (h : Own B w a l c xs) (hb : B' ≤ B) : Own B' w a l c xs := by
  obtain ⟨h1, h2, h3, h4⟩ := h
  refine ⟨h1, h2, h3, ?_⟩
  rcases h4 with h4 | ⟨g, cur, e, hg, r⟩
  · exact .inl h4
  · exact .inr ⟨g, cur, e, by omega, r⟩

def byts (s : ByteArray) : List Int := s.data.toList.map (fun b => (b.toNat : Int))

theorem cell_block_lt {w : World} {x : Addr} {v : Value} (h : w.cell? x = some v) : x.block < w.heap.size := by
  cases hb : w.heap[x.block]? with
  | none => simp [World.cell?, hb] at h
  | some o => exact (Array.getElem?_eq_some_iff.1 hb).1

end Go.Proofs.YtdkicniciciobaaGreatDoor

/- The contract of device.copied. -/
namespace Go.Proofs.YtdkicniciciobaaGreatDoor
open Go.RowKit Go.Shelf
set_option linter.unusedVariables false

set_option maxRecDepth 100000 in
set_option maxHeartbeats 1000000 in
theorem copied_any (a : Option Addr) (len cap : Nat) (zs : List Int) (w : World) (hr : Row w.heap.size w a len cap zs) :
    Calls Tryz.prog 97 #[.slice a len cap] w fun e w' => e = .returned (.slice (some ⟨w.heap.size, 0, none⟩) len len) ∧ Block w' w.heap.size zs ∧ Below w.heap.size w w' := by
  obtain ⟨hlen, hlc, hcm, hby, hcell⟩ := hr
  have hmk := run_make_row' (P := Tryz.prog) 49 5 (.int .u8 0) 1 Tryz.underlying49 info5 rfl .i64 .i64 len (by omega) (by omega)
  have hb0 : Below w.heap.size w (w.alloc (.cells (madeCells #[.int .u8 0] len) 5)) := (Below.refl _ w).alloc (Nat.le_refl _) _
  have hsrc : 0 < len → ∃ ad, a = some ad ∧ ∀ (j : Nat) v, (zs.map (Value.int .u8))[j]? = some v → (w.alloc (.cells (madeCells #[.int .u8 0] len) 5)).cell? (ad.add j) = some v := by
    intro hp
    obtain ⟨b, off, rfl, hb, hc⟩ := hcell hp
    refine ⟨_, rfl, fun j v hv => ?_⟩
    rw [World.add_zero_spot, hb0.cell (p := ⟨b, off + j, none⟩) hb]
    have hj : j < zs.length := by
      have := (List.getElem?_eq_some_iff.1 hv).1
      simpa using this
    rw [hc j (by omega)]
    rw [List.getElem?_map, List.getElem?_eq_getElem hj] at hv
    rw [List.getElem?_eq_getElem hj]
    simpa using hv
  have hg : (w.alloc (.cells (madeCells #[.int .u8 0] len) 5)).heap[w.heap.size]? = some (.cells (List.replicate len (Value.int .u8 0)).toArray 5 (0, 0)) := by
    rw [World.alloc_heap_new, ← toList_madeCells_one, Array.toArray_toList]
  obtain ⟨w2, hcp, hg2, hb2⟩ : ∃ w2, (∀ ty, (Builtin.copy_ #[49, 49] ty #[.slice (some ⟨w.heap.size, 0, none⟩) len len, .slice a len cap]).run Tryz.prog (w.alloc (.cells (madeCells #[.int .u8 0] len) 5)) = .ok (goInt len) w2) ∧ Block w2 w.heap.size zs ∧ Below w.heap.size w w2 := by
    by_cases h0 : len = 0
    · subst h0
      have hz : zs = [] := List.eq_nil_of_length_eq_zero hlen
      subst hz
      exact ⟨_, fun ty => run_copy_none _ 49 49 ty 5 _ _ _ _ _ _ Tryz.underlying49 size5 rfl, hg, hb0⟩
    · obtain ⟨ad, rfl, hs⟩ := hsrc (by omega)
      refine ⟨_, fun ty => ?_, ?_, below_setRow hb0 (Nat.le_refl _) (zs.map (Value.int .u8)).toArray⟩
      · have h := run_copy_row (P := Tryz.prog) (w.alloc (.cells (madeCells #[.int .u8 0] len) 5)) 49 49 ty 5 w.heap.size 0 len len ad len cap _ 5 (zs.map (Value.int .u8)) Tryz.underlying49 size5 hg (by rw [List.length_map, hlen]; exact (Nat.min_self _).symm) hs (by simp [hlen]) (oneCell_bytes zs)
        have e : (List.take 0 (List.replicate len (Value.int .u8 0)).toArray.toList ++ zs.map (Value.int .u8) ++ List.drop (0 + (zs.map (Value.int .u8)).length) (List.replicate len (Value.int .u8 0)).toArray.toList) = zs.map (Value.int .u8) := by
          simp [hlen]
        rw [e, List.length_map, hlen] at h
        exact h
      · exact setRow_heap _ _ _ _ 5 _ hg
  clear hg hsrc hcell
  go_enter Tryz.func97, Tryz.ntmps97
  go_wp2
  go_ret
  exact ⟨rfl, hg2, hb2⟩

end Go.Proofs.YtdkicniciciobaaGreatDoor

/- The contracts of follow, Sum and Add. -/
namespace Go.Proofs.YtdkicniciciobaaGreatDoor
open Go.RowKit Go.Shelf
set_option linter.unusedVariables false

def Tab (w : World) : Prop := ∀ k, k < 16 → w.cell? ⟨0, k, none⟩ = some (.int .u32 ((tab k : Nat) : Int))

theorem look (w : World) (hT : Tab w) (X : Nat) (hX : X < 4294967296) : ∃ r t Y : Nat, r < 16 ∧ w.cell? ⟨0, r, none⟩ = some (.int .u32 (t : Int)) ∧ bits .and .u32 (X : Int) 15 = (r : Int) ∧ bits .xor .u32 ((X : Int) / 16) (t : Int) = (Y : Int) ∧ Y < 4294967296 ∧ Hid (Y = st4 X) := by
  refine ⟨X % 16, tab (X % 16), st4 X, by omega, hT _ (by omega), ?_, ?_, st4_lt hX, rfl⟩
  · have := u32_and_nat X 15 hX (by omega)
    rw [nat_mask4] at this
    exact this
  · rw [st4_look]
    have := u32_xor_nat (X / 16) (tab (X % 16)) (by omega) (tab_lt _)
    rw [← this]
    congr 1

set_option maxHeartbeats 1000000 in
theorem follow_some (b off len cap : Nat) (zs : List Int) (s : Nat) (w : World) (hs : s < 4294967296) (hT : Tab w) (hlen : zs.length = len) (hl : len ≤ 140737488355328) (hby : Byts zs)
    (hcs : ∀ j, j < len → w.cell? ⟨b, off + j, none⟩ = some (.int .u8 (zs[j]?.getD 0))) :
    Calls Tryz.prog 250 #[.int .u32 (s : Int), .slice (some ⟨b, off, none⟩) len cap] w fun e w' => e = .returned (.int .u32 ((addS s zs : Nat) : Int)) ∧ w = w' := by
  obtain ⟨c0, hc0, hs1, hx0⟩ : ∃ c0 : Nat, Hid (s ^^^ 4294967295 = c0) ∧ c0 < 4294967296 ∧ bits .xor .u32 (s : Int) 4294967295 = (c0 : Int) := ⟨_, rfl, lt_xor hs (by omega), u32_xor_nat s 4294967295 hs (by omega)⟩
  have HE : Hid (addS s zs = fol c0 zs ^^^ 4294967295) := by unfold addS; rw [hc0.out]; rfl
  have HT := hide hT
  have HB := hide hby
  have HC := hide hcs
  clear hc0 hT hby hcs
  go_enter Tryz.func250, Tryz.ntmps250
  go_wp2
  go_loop [5, 12] (fun c i => ∃ k : Nat, k ≤ len ∧ i = .int .i64 (k : Int) ∧ c = .int .u32 ((fol c0 (zs.take k) : Nat) : Int)) (fun _ i => len - (intOf i).toNat)
  case atStart => exact ⟨0, Nat.zero_le _, rfl, rfl⟩
  case round =>
    obtain ⟨k, hk, rfl, rfl⟩ := hrel
    have hC : fol c0 (zs.take k) < 4294967296 := fol_lt (fun z hz => HB.out z (List.mem_of_mem_take hz)) hs1
    by_cases hlt : k < len
    · have hz := HB.out (zs[k]?.getD 0) (by rw [List.getElem?_eq_getElem (by omega)]; exact List.getElem_mem _)
      have HS := hide (fol_succ c0 zs k (by omega))
      have hck := HC.out k hlt
      generalize fol c0 (zs.take k) = C at *
      generalize zs[k]?.getD 0 = xi at *
      obtain ⟨x, rfl⟩ := Int.eq_ofNat_of_zero_le hz.1
      have hx1 : (x : Int) % 4294967296 = x := by omega
      obtain ⟨X, hXe, hX, h1⟩ : ∃ X : Nat, Hid (X = C ^^^ x) ∧ X < 4294967296 ∧ bits .xor .u32 (C : Int) (x : Int) = (X : Int) := ⟨_, rfl, lt_xor hC (by omega), u32_xor_nat C x hC (by omega)⟩
      obtain ⟨r, t, Y, hr, ht, h2, h3, hY, hYe⟩ := look w HT.out X hX
      obtain ⟨r', t', Z, hr', ht', h2', h3', hZ, hZe⟩ := look w HT.out Y hY
      have HF : Hid (fol c0 (zs.take (k + 1)) = Z) := by
        show _ = _
        rw [HS.out, hZe.out, hYe.out, hXe.out]
        rfl
      clear hXe hYe hZe HS
      go_wp2
      exact ⟨⟨k + 1, by omega, by go_num, by rw [HF.out]⟩, by simp [intOf]; omega⟩
    · have hX := u32_xor_nat (fol c0 (zs.take k)) 4294967295 hC (by omega)
      have HX := hide hX
      obtain rfl : k = len := by omega
      clear hX
      go_wp2
      go_ret
      refine ⟨?_, rfl⟩
      rw [HE.out]
      refine ret_int ?_
      have HX' := HX.out
      have e : zs.take k = zs := List.take_of_length_le (by omega)
      rw [e] at HX' ⊢
      exact HX'

set_option maxHeartbeats 1000000 in
theorem follow_none (a : Option Addr) (cap : Nat) (s : Nat) (w : World) (hs : s < 4294967296) :
    Calls Tryz.prog 250 #[.int .u32 (s : Int), .slice a 0 cap] w fun e w' => e = .returned (.int .u32 ((addS s [] : Nat) : Int)) ∧ w = w' := by
  obtain ⟨c0, hc0, hs1, hx0⟩ : ∃ c0 : Nat, Hid (s ^^^ 4294967295 = c0) ∧ c0 < 4294967296 ∧ bits .xor .u32 (s : Int) 4294967295 = (c0 : Int) := ⟨_, rfl, lt_xor hs (by omega), u32_xor_nat s 4294967295 hs (by omega)⟩
  have HE : Hid (addS s [] = c0 ^^^ 4294967295) := by unfold addS; rw [hc0.out]; rfl
  have hX := u32_xor_nat c0 4294967295 hs1 (by omega)
  have HX := hide hX
  clear hc0 hX
  go_enter Tryz.func250, Tryz.ntmps250
  go_wp2
  go_loop [5, 12] (fun c i => i = .int .i64 0 ∧ c = .int .u32 (c0 : Int)) (fun _ i => 0 - (intOf i).toNat)
  case atStart => exact ⟨rfl, rfl⟩
  case round =>
    obtain ⟨rfl, rfl⟩ := hrel
    go_wp2
    go_ret
    refine ⟨?_, rfl⟩
    rw [HE.out]
    exact ret_int HX.out

theorem follow_any (a : Option Addr) (len cap : Nat) (zs : List Int) (s : Nat) (w : World) (hs : s < 4294967296) (hT : Tab w) (hh : Has w a len zs) (hl : len ≤ 140737488355328) (hby : Byts zs) :
    Calls Tryz.prog 250 #[.int .u32 (s : Int), .slice a len cap] w fun e w' => e = .returned (.int .u32 ((addS s zs : Nat) : Int)) ∧ w = w' := by
  by_cases h0 : len = 0
  · subst h0
    obtain rfl : zs = [] := List.eq_nil_of_length_eq_zero hh.1
    exact follow_none a cap s w hs
  · obtain ⟨b, off, rfl, hc⟩ := hh.2 (by omega)
    exact follow_some b off len cap zs s w hs hT hh.1 hl hby hc

set_option maxHeartbeats 1000000 in
theorem sum_any (a : Option Addr) (len cap : Nat) (zs : List Int) (w : World) (hT : Tab w) (hh : Has w a len zs) (hl : len ≤ 140737488355328) (hby : Byts zs) :
    Calls Tryz.prog 236 #[.slice a len cap] w fun e w' => e = .returned (.int .i64 ((sumS zs : Nat) : Int)) ∧ w = w' := by
  have hlt := sumS_lt hby
  have K : Hid (Calls Tryz.prog 250 #[.int .u32 0, .slice a len cap] w fun e w' => e = .returned (.int .u32 ((sumS zs : Nat) : Int)) ∧ w = w') := by
    have := follow_any a len cap zs 0 w (by omega) hT hh hl hby
    rw [addS_zero] at this
    exact this
  generalize sumS zs = S at *
  clear hT hh hby
  go_enter Tryz.func236, Tryz.ntmps236
  go_wp2_with (go_at_call 250; refine (unhide K).mono ?_; rintro e w' ⟨rfl, rfl⟩)
  go_ret
  exact ⟨ret_int (by first | rfl | omega), rfl⟩

end Go.Proofs.YtdkicniciciobaaGreatDoor

/- The contract of skerryref01.BytesApart. -/
namespace Go.Proofs.YtdkicniciciobaaGreatDoor
open Go.RowKit Go.Shelf
set_option linter.unusedVariables false
set_option maxRecDepth 100000

def mk (n : Int) : Int := (n * 7 + n / 36 + 3) % 256

set_option maxRecDepth 100000 in
set_option maxHeartbeats 400000 in
theorem mark_any (n : Int) (w : World) (h0 : 0 ≤ n) (h1 : n ≤ 72057594037927936) : Calls Tryz.prog 104 #[.int .i64 n] w fun e w' => e = .returned (.int .u8 (mk n)) ∧ w = w' := by
  have e1 : wrap64 (n.tdiv 36) = n / 36 := by
    rw [Int.tdiv_eq_ediv_of_nonneg h0]; unfold wrap64; omega
  go_enter Tryz.func104, Tryz.ntmps104
  go_wp2
  go_ret
  refine ⟨ret_int ?_, rfl⟩
  unfold mk
  first | rw [IntKind.wrap_u8'] | rfl

structure Lists where
  N : Nat
  B : Nat
  Lb : Nat
  ca : Array Value
  A : Nat → Option Addr
  L : Nat → Nat
  C : Nat → Nat
  off : Nat → Nat

structure Lists.Good (S : Lists) : Prop where
  few : S.N ≤ 64
  size : S.ca.size = S.N
  at' : ∀ p, p < S.N → S.ca[p]? = some (.slice (S.A p) (S.L p) (S.C p))
  off0 : S.off 0 = 0
  offS : ∀ p, p < S.N → S.off (p + 1) = S.off p + S.L p
  fit : ∀ p, p < S.N → S.L p ≤ 140737488351232
  base : S.B ≤ S.Lb
  apart : ∀ p p', p < S.N → p' < S.N → p ≠ p' → ∀ g, S.A p = some ⟨g, 0, none⟩ → S.A p' ≠ some ⟨g, 0, none⟩

theorem Lists.Good.off_le {S : Lists} (h : S.Good) (p : Nat) (hp : p ≤ S.N) : S.off p ≤ p * 140737488351232 := by
  induction p with
  | zero => exact Nat.le_trans (Nat.le_of_eq h.off0) (Nat.zero_le _)
  | succ p ih => rw [h.offS p (by omega)]; have := h.fit p (by omega); have := ih (by omega); omega

theorem Lists.Good.off_bd {S : Lists} (h : S.Good) (p : Nat) (hp : p ≤ S.N) : S.off p ≤ 9007199254478848 := by
  have h1 := h.off_le p hp
  have h2 := h.few
  omega

def Stay (w0 w : World) : Prop := ∀ (k : Nat) (cs : Array Value), w0.heap[k]? = some (.cells cs 3 (0, 0)) → w.heap[k]? = some (.cells cs 3 (0, 0))

def BI (B : Nat) (w0 w : World) : Prop := Below B w0 w ∧ Stay w0 w

theorem BI.refl (B : Nat) (w : World) : BI B w w := ⟨Below.refl _ _, fun _ _ h => h⟩
theorem BI.drew {B : Nat} {w0 w : World} (h : BI B w0 w) : BI B w0 w.drew := ⟨h.1.drew, h.2⟩
theorem BI.trans {B : Nat} {w0 w w' : World} (h : BI B w0 w) (hb : Below B w w') (hs : Stay w w') : BI B w0 w' := ⟨h.1.trans hb, fun k cs hk => hs k cs (h.2 k cs hk)⟩
theorem BI.setCell {B : Nat} {w0 w : World} (h : BI B w0 w) {g j : Nat} (hg : B ≤ g) (h5 : ∃ cur, w.heap[g]? = some (.cells cur 5 (0, 0))) (v : Value) : BI B w0 (w.setCell ⟨g, j, none⟩ v) := by
  refine h.trans ((Below.refl _ _).setCell (p := ⟨g, j, none⟩) hg _) fun k cs hk => ?_
  have hne : k ≠ g := by
    rintro rfl
    obtain ⟨cur, h5⟩ := h5
    rw [hk] at h5
    simp at h5
  exact (Below.heap_setCell _ _ _ _ hne).trans hk

def Ph1 (S : Lists) (w0 w : World) (i j : Nat) : Prop :=
  w.heap[S.Lb]? = some (.cells S.ca 49 (0, 0)) ∧ BI S.B w0 w ∧
    ∀ p, p < S.N → ∃ cs, Own S.B w (S.A p) (S.L p) (S.C p) cs ∧ ∀ q, q < S.L p → (p < i ∨ (p = i ∧ q < j)) → cs[q]?.getD 0 = mk ((S.off p + q : Nat) : Int)

theorem Ph1.ls {S : Lists} (hS : S.Good) {w0 w : World} {i j : Nat} (h : Ph1 S w0 w i j) {p : Nat} (hp : p < S.N) : w.cell? ⟨S.Lb, p, none⟩ = some (.slice (S.A p) (S.L p) (S.C p)) := by
  simp only [World.cell?, h.1]
  simpa using hS.at' p hp

theorem Ph1.drew {S : Lists} {w0 w : World} {i j : Nat} (h : Ph1 S w0 w i j) : Ph1 S w0 w.drew i j := ⟨h.1, h.2.1.drew, h.2.2⟩

theorem Ph1.next {S : Lists} {w0 w : World} {i : Nat} (h : Ph1 S w0 w i (S.L i)) : Ph1 S w0 w (i + 1) 0 := by
  refine ⟨h.1, h.2.1, fun p hp => ?_⟩
  obtain ⟨cs, ho, hc⟩ := h.2.2 p hp
  refine ⟨cs, ho, fun q hq hx => hc q hq ?_⟩
  by_cases e : p = i
  · subst e; exact .inr ⟨rfl, hq⟩
  · exact .inl (by omega)

theorem Ph1.store {S : Lists} (hS : S.Good) {w0 w : World} {i j : Nat} (h : Ph1 S w0 w i j) (hi : i < S.N) (hj : j < S.L i) :
    ∃ g v, S.A i = some ⟨g, 0, none⟩ ∧ w.cell? ⟨g, j, none⟩ = some v ∧ w.frozen? ⟨g, j, none⟩ = false ∧ Ph1 S w0 (w.setCell ⟨g, j, none⟩ (.int .u8 (mk ((S.off i + j : Nat) : Int)))) i (j + 1) := by
  obtain ⟨cs, ho, hc⟩ := h.2.2 i hi
  obtain ⟨g, e, hg, hcell, hfr⟩ := ho.cell hj
  refine ⟨g, _, e, hcell, hfr, ?_, h.2.1.setCell hg (ho.lt e).2.2 _, fun p hp => ?_⟩
  · have hne : S.Lb ≠ g := by
      rintro rfl
      rw [e] at ho
      obtain ⟨_, _, _, h4⟩ := ho
      rcases h4 with ⟨h4, _⟩ | ⟨g', cur, e', _, hh, _⟩
      · cases h4
      · cases e'
        rw [h.1] at hh
        simp at hh
    exact (Below.heap_setCell _ _ _ _ hne).trans h.1
  · by_cases hpi : p = i
    · subst hpi
      rw [e] at ho
      have hs := ho.set j (mk ((S.off p + j : Nat) : Int))
      rw [e]
      refine ⟨_, hs, fun q hq hx => ?_⟩
      have hl := ho.1
      by_cases hqj : q = j
      · subst hqj
        rw [List.getElem?_set_self (by omega)]; rfl
      · rw [List.getElem?_set_ne (by omega)]
        exact hc q hq (by omega)
    · obtain ⟨cs', ho', hc'⟩ := h.2.2 p hp
      refine ⟨cs', ho'.kept (fun g' e' => Below.heap_setCell _ _ _ _ ?_), fun q hq hx => hc' q hq (by omega)⟩
      rintro rfl
      exact hS.apart i p hi hp (by omega) _ e e'

def sval (t : Option Addr × Nat × Nat) : Value := .slice t.1 t.2.1 t.2.2

def ext (S : Lists) (p q : Nat) : Int := mk ((S.off S.N + 6 * p + q : Nat) : Int)

def Ph2 (S : Lists) (B2 : Nat) (w0 w : World) (i : Nat) (us : List (Option Addr × Nat × Nat)) (gv : Value) : Prop :=
  Ph1 S w0 w S.N 0 ∧ us.length = i ∧ w.ownsRow B2 49 1 gv i (us.map sval) ∧
  (∀ p t, us[p]? = some t → t.2.1 = S.L p + 6 ∧ ∃ cs, Own S.B w t.1 t.2.1 t.2.2 cs ∧ ∀ q, q < 6 → cs[S.L p + q]?.getD 0 = ext S p q) ∧
  (∀ t ∈ us, ∀ k, i ≤ k → k < S.N → ∀ g, S.A k = some ⟨g, 0, none⟩ → t.1 ≠ some ⟨g, 0, none⟩)

def Ph2i (S : Lists) (B2 : Nat) (w0 w : World) (i : Nat) (us : List (Option Addr × Nat × Nat)) (gv : Value) (ga : Option Addr) (gc j : Nat) : Prop :=
  Ph2 S B2 w0 w i us gv ∧
  (∃ cs, Own S.B w ga (S.L i + j) gc cs ∧ (∀ q, q < S.L i → cs[q]?.getD 0 = mk ((S.off i + q : Nat) : Int)) ∧ ∀ q, q < j → cs[S.L i + q]?.getD 0 = ext S i q) ∧
  (∀ t ∈ us, ∀ g, ga = some ⟨g, 0, none⟩ → t.1 ≠ some ⟨g, 0, none⟩) ∧
  (∀ k, k < S.N → k ≠ i → ∀ g, ga = some ⟨g, 0, none⟩ → S.A k ≠ some ⟨g, 0, none⟩) ∧
  ((ga = S.A i ∧ gc = S.C i) ∨ ∀ g, ga = some ⟨g, 0, none⟩ → S.A i ≠ some ⟨g, 0, none⟩)

theorem Ph2.kept {S : Lists} {B2 : Nat} {w0 w w' : World} {i : Nat} {us : List (Option Addr × Nat × Nat)} {gv : Value} (hS : S.Good) (h : Ph2 S B2 w0 w i us gv) (ga : Option Addr) (hB : Below S.B w w')
    (h5 : ∀ g, ga = some ⟨g, 0, none⟩ → ∃ cur, w.heap[g]? = some (.cells cur 5 (0, 0)))
    (hk : ∀ k, k < w.heap.size → (∀ g, ga = some ⟨g, 0, none⟩ → k ≠ g) → w'.heap[k]? = w.heap[k]?)
    (hu : ∀ t ∈ us, ∀ g, ga = some ⟨g, 0, none⟩ → t.1 ≠ some ⟨g, 0, none⟩)
    (hA : ∀ k, k < S.N → k ≠ i → ∀ g, ga = some ⟨g, 0, none⟩ → S.A k ≠ some ⟨g, 0, none⟩)
    (hi : i < S.N → ∃ cs, Own S.B w' (S.A i) (S.L i) (S.C i) cs ∧ ∀ q, q < S.L i → cs[q]?.getD 0 = mk ((S.off i + q : Nat) : Int)) : Ph2 S B2 w0 w' i us gv := by
  obtain ⟨⟨hL, hBw, hown⟩, hul, hrow, hus, hfu⟩ := h
  have hty : ∀ (k : Nat) (cur : Array Value), w.heap[k]? = some (Obj.cells cur 49 (0, 0)) → w'.heap[k]? = w.heap[k]? := by
    intro k cur hh
    refine hk k (Array.getElem?_eq_some_iff.1 hh).1 (fun g e hkg => ?_)
    subst hkg
    obtain ⟨cur', h'⟩ := h5 _ e
    rw [hh] at h'; simp at h'
  have hstay : Stay w w' := by
    intro k cs hh
    refine (hk k (Array.getElem?_eq_some_iff.1 hh).1 (fun g e hkg => ?_)).trans hh
    subst hkg
    obtain ⟨cur', h'⟩ := h5 _ e
    rw [hh] at h'; simp at h'
  refine ⟨⟨(hty _ _ hL).trans hL, hBw.trans hB hstay, fun p hp => ?_⟩, hul, ownsRow_block hrow (fun g cur _ hh => hty g cur hh), fun p t ht => ?_, hfu⟩
  · by_cases hpi : p = i
    · subst hpi
      obtain ⟨cs, ho, hc⟩ := hi hp
      exact ⟨cs, ho, fun q hq _ => hc q hq⟩
    · obtain ⟨cs, ho, hc⟩ := hown p hp
      refine ⟨cs, ho.kept (fun g e => hk g (ho.lt e).1 (fun g' e' hgg => ?_)), hc⟩
      subst hgg
      exact hA p hp hpi _ e' e
  · obtain ⟨h1, cs, ho, hc⟩ := hus p t ht
    refine ⟨h1, cs, ho.kept (fun g e => hk g (ho.lt e).1 (fun g' e' hgg => ?_)), hc⟩
    subst hgg
    exact hu t (List.mem_of_getElem? ht) _ e' e

theorem Ph2.drewN {S : Lists} {B2 : Nat} {w0 w : World} {i : Nat} {us : List (Option Addr × Nat × Nat)} {gv : Value} (h : Ph2 S B2 w0 w i us gv) (n : Nat) : Ph2 S B2 w0 (w.drewN n) i us gv :=
  ⟨⟨h.1.1, h.1.2.1.trans (below_drewN (Below.refl _ _) n) (fun _ _ hk => hk), h.1.2.2⟩, h.2.1, h.2.2.1, h.2.2.2⟩

theorem Ph2.alloc {S : Lists} {B2 : Nat} {w0 w : World} {i : Nat} {us : List (Option Addr × Nat × Nat)} {gv : Value} (hS : S.Good) (h : Ph2 S B2 w0 w i us gv) (hB : S.B ≤ w.heap.size) (o : Obj) : Ph2 S B2 w0 (w.alloc o) i us gv := by
  refine h.kept hS none ((Below.refl _ w).alloc hB o) (fun g e => by cases e) (fun k hk _ => Below.heap_alloc w o k hk) (fun _ _ g e => by cases e) (fun _ _ _ g e => by cases e) (fun hi => ?_)
  obtain ⟨cs, ho, hc⟩ := h.1.2.2 i hi
  exact ⟨cs, ho.kept (fun g e => Below.heap_alloc w o g (ho.lt e).1), fun q hq => hc q hq (.inl hi)⟩

theorem Ph2.start {S : Lists} {w0 w : World} {B2 : Nat} (h : Ph1 S w0 w S.N 0) : Ph2 S B2 w0 w 0 [] (.slice none 0 0) :=
  ⟨h, rfl, World.ownsRow_nil w B2 49 1, by simp, by simp⟩

theorem Ph2i.start {S : Lists} (hS : S.Good) {B2 : Nat} {w0 w : World} {i : Nat} {us : List (Option Addr × Nat × Nat)} {gv : Value} (h : Ph2 S B2 w0 w i us gv) (hi : i < S.N) : Ph2i S B2 w0 w i us gv (S.A i) (S.C i) 0 := by
  obtain ⟨cs, ho, hc⟩ := h.1.2.2 i hi
  exact ⟨h, ⟨cs, ho, fun q hq => hc q hq (.inl hi), fun q hq => by omega⟩, fun t ht g e => h.2.2.2.2 t ht i (Nat.le_refl _) hi g e, fun k hk hki g e => hS.apart i k hi hk (by omega) g e, .inl ⟨rfl, rfl⟩⟩

theorem Ph2i.step {S : Lists} (hS : S.Good) {B2 : Nat} {w0 w : World} {i : Nat} {us : List (Option Addr × Nat × Nat)} {gv : Value} {ga : Option Addr} {gc j : Nat} (h : Ph2i S B2 w0 w i us gv ga gc j) (hi : i < S.N) (hj : j < 6) (hB : S.B ≤ w.heap.size) :
    ∃ a' c' w', (∀ ty, (Builtin.append_ #[49, 49] ty #[.slice ga (S.L i + j) gc, .slice (some ⟨w.heap.size, 0, none⟩) 1 1]).run Tryz.prog (w.alloc (.cells #[.int .u8 (ext S i j)] 5)) = .ok (.slice a' (S.L i + j + 1) c') w') ∧
      Ph2i S B2 w0 w' i us gv a' c' (j + 1) ∧ w.heap.size ≤ w'.heap.size := by
  obtain ⟨h2, ⟨cs, ho, hm, he⟩, hu, hA, hd⟩ := h
  obtain ⟨z, hz⟩ : ∃ z, ext S i j = z := ⟨_, rfl⟩
  have hfit := hS.fit i hi
  have h2' := h2.alloc hS hB (.cells #[.int .u8 (ext S i j)] 5)
  have ho' : Own S.B (w.alloc (.cells #[.int .u8 (ext S i j)] 5)) ga (S.L i + j) gc cs := ho.kept (fun g e => Below.heap_alloc w _ g (ho.lt e).1)
  have hnew : (w.alloc (.cells #[.int .u8 (ext S i j)] 5)).cell? ⟨w.heap.size, 0, none⟩ = some (.int .u8 (ext S i j)) := (Boxed.new w 5 (.int .u8 (ext S i j))).cell
  obtain ⟨w1, hw1⟩ : ∃ w1, w.alloc (.cells #[.int .u8 (ext S i j)] 5) = w1 := ⟨_, rfl⟩
  have hsz : w1.heap.size = w.heap.size + 1 := by rw [← hw1]; simp
  rw [hw1] at h2' ho' hnew ⊢
  -- the type's number is not used by the run
  have hall := fun ty => run_append_byte S.B w1 ty ga (S.L i + j) gc cs ho' (by omega) w.heap.size (ext S i j) hnew (by omega)
  obtain ⟨a', c', w', hr, hown, hk, hb, hcase⟩ := hall 0
  refine ⟨a', c', w', fun ty => ?_, ?_, ?_⟩
  · have hty : (Builtin.append_ #[49, 49] ty #[.slice ga (S.L i + j) gc, .slice (some ⟨w.heap.size, 0, none⟩) 1 1]) = (Builtin.append_ #[49, 49] 0 #[.slice ga (S.L i + j) gc, .slice (some ⟨w.heap.size, 0, none⟩) 1 1]) := rfl
    rw [hty]; exact hr
  · have hmark : ∀ q, q < S.L i → (cs ++ [ext S i j])[q]?.getD 0 = mk ((S.off i + q : Nat) : Int) := by
      intro q hq
      have := ho.1
      rw [List.getElem?_append_left (by omega)]; exact hm q hq
    have hextra : ∀ q, q < j + 1 → (cs ++ [ext S i j])[S.L i + q]?.getD 0 = ext S i q := by
      intro q hq
      have hl := ho.1
      by_cases hqj : q = j
      · subst hqj
        rw [List.getElem?_append_right (by omega), hl, Nat.sub_self]; rfl
      · rw [List.getElem?_append_left (by omega)]; exact he q (by omega)
    have hAi : i < S.N → ∃ cs, Own S.B w' (S.A i) (S.L i) (S.C i) cs ∧ ∀ q, q < S.L i → cs[q]?.getD 0 = mk ((S.off i + q : Nat) : Int) := by
      intro _
      rcases hcase with ⟨rfl, rfl, hpre⟩ | ⟨g', rfl, hg', hsame⟩
      · rcases hd with ⟨e1, e2⟩ | hd
        · rw [← e1, ← e2]
          refine ⟨_, hpre (S.L i) (by omega), fun q hq => ?_⟩
          rw [List.getElem?_take_of_lt hq]; exact hm q hq
        · obtain ⟨cs', hoA, hcA⟩ := h2'.1.2.2 i hi
          refine ⟨cs', hoA.kept (fun g e => hk g (hoA.lt e).1 (fun g2 e2 hgg => ?_)), fun q hq => hcA q hq (.inl hi)⟩
          subst hgg
          exact hd _ e2 e
      · obtain ⟨cs', hoA, hcA⟩ := h2'.1.2.2 i hi
        exact ⟨cs', hoA.kept (fun g e => hsame g (hoA.lt e).1), fun q hq => hcA q hq (.inl hi)⟩
    have h2'' := h2'.kept hS ga hb (fun g e => (ho'.lt e).2.2) hk hu hA hAi
    refine ⟨h2'', ⟨cs ++ [ext S i j], hown, hmark, hextra⟩, ?_, ?_, ?_⟩
    · rcases hcase with ⟨rfl, rfl, _⟩ | ⟨g', rfl, hg', _⟩
      · exact hu
      · intro t ht g e e2
        cases e
        obtain ⟨p, hp⟩ := List.getElem?_of_mem ht
        obtain ⟨_, cs2, ho2, _⟩ := h2'.2.2.2.1 p t hp
        have := (ho2.lt e2).1
        omega
    · rcases hcase with ⟨rfl, rfl, _⟩ | ⟨g', rfl, hg', _⟩
      · exact hA
      · intro k hk' hki g e e2
        cases e
        obtain ⟨cs2, ho2, _⟩ := h2'.1.2.2 k hk'
        have := (ho2.lt e2).1
        omega
    · rcases hcase with ⟨rfl, rfl, _⟩ | ⟨g', rfl, hg', _⟩
      · exact hd
      · refine .inr (fun g e e2 => ?_)
        cases e
        obtain ⟨cs2, ho2, _⟩ := h2'.1.2.2 i hi
        have := (ho2.lt e2).1
        omega
  · have := hb.size; omega

theorem Ph2i.done {S : Lists} (hS : S.Good) {B2 : Nat} {w0 w w' : World} {i : Nat} {us : List (Option Addr × Nat × Nat)} {gv gv' : Value} {ga : Option Addr} {gc : Nat} (h : Ph2i S B2 w0 w i us gv ga gc 6) (hi : i < S.N) (hB : S.B ≤ w.heap.size) (hLb : S.Lb < B2) (hBB : S.B ≤ B2)
    (o : Obj) (hrow : w'.ownsRow B2 49 1 gv' (i + 1) (us.map sval ++ [.slice ga (S.L i + 6) gc])) (hg : (w.alloc o).grownBy w' gv.ownBlock) : Ph2 S B2 w0 w' (i + 1) (us ++ [(ga, S.L i + 6, gc)]) gv' := by
  obtain ⟨h2, ⟨cs, ho, hm, he⟩, hu, hA, hd⟩ := h
  have h2' := h2.alloc hS hB o
  have hrow0 := h2'.2.2.1
  have hkb : ∀ k, k < (w.alloc o).heap.size → (k < B2 ∨ ∃ cur, (w.alloc o).heap[k]? = some (.cells cur 5 (0, 0))) → w'.heap[k]? = (w.alloc o).heap[k]? := by
    intro k hk hx
    refine hg.block k hk (fun e => ?_)
    rcases hrow0.2 with ⟨e0, _⟩ | ⟨g, cap, cur, e0, hb, hh, _⟩
    · rw [e0] at e; cases e
    · rw [e0] at e
      simp only [Value.ownBlock, Option.some.injEq] at e
      subst e
      rcases hx with hx | ⟨cur', hx⟩
      · omega
      · rw [hh] at hx; simp at hx
  have hstay : Stay (w.alloc o) w' := by
    intro k cs hh
    refine (hg.block k (Array.getElem?_eq_some_iff.1 hh).1 (fun e => ?_)).trans hh
    rcases hrow0.2 with ⟨e0, _⟩ | ⟨g, cap, cur, e0, hb, hh', _⟩
    · rw [e0] at e; cases e
    · rw [e0] at e
      simp only [Value.ownBlock, Option.some.injEq] at e
      subst e
      rw [hh] at hh'; simp at hh'
  have hkO : ∀ {a : Option Addr} {n c : Nat} {xs : List Int}, Own S.B (w.alloc o) a n c xs → Own S.B w' a n c xs := by
    intro a n c xs hO
    exact hO.kept (fun g e => hkb g (hO.lt e).1 (.inr (hO.lt e).2.2))
  have ho' : Own S.B (w.alloc o) ga (S.L i + 6) gc cs := ho.kept (fun g e => Below.heap_alloc w _ g (ho.lt e).1)
  have hLlt : S.Lb < (w.alloc o).heap.size := (Array.getElem?_eq_some_iff.1 h2'.1.1).1
  refine ⟨⟨(hkb _ hLlt (.inl hLb)).trans h2'.1.1, h2'.1.2.1.trans ⟨hg.os, hg.tape, hg.output, hg.size, fun k hk => hkb k (by simp; omega) (.inl (by omega))⟩ hstay, fun p hp => ?_⟩, by simp [h2.2.1], by simpa [sval] using hrow, fun p t ht => ?_, ?_⟩
  · obtain ⟨cs', hO, hc⟩ := h2'.1.2.2 p hp
    exact ⟨cs', hkO hO, hc⟩
  · by_cases hp : p < us.length
    · rw [List.getElem?_append_left hp] at ht
      obtain ⟨h1, cs', hO, hc⟩ := h2'.2.2.2.1 p t ht
      exact ⟨h1, cs', hkO hO, hc⟩
    · have hul := h2.2.1
      rw [List.getElem?_append_right (by omega)] at ht
      have hpi : p = i := by
        have := (List.getElem?_eq_some_iff.1 ht).1
        simp at this; omega
      subst hpi
      rw [hul, Nat.sub_self] at ht
      simp at ht
      subst ht
      exact ⟨rfl, cs, hkO ho', he⟩
  · intro t ht k hk hkN g e
    rcases List.mem_append.1 ht with ht | ht
    · exact h2.2.2.2.2 t ht k (by omega) hkN g e
    · simp at ht
      subst ht
      intro e2
      exact hA k hkN (by omega) g e2 e

theorem mark_same (n : Int) (w : World) (h0 : 0 ≤ n) (h1 : n ≤ 72057594037927936) : Calls Tryz.prog 104 #[.int .i64 n] w fun e w' => e = .returned (.int .u8 (mk n)) ∧ w' = w :=
  (mark_any n w h0 h1).mono fun e w' ⟨he, hw⟩ => ⟨he, hw.symm⟩

theorem Ph2.shape {S : Lists} {B2 : Nat} {w0 w : World} {i : Nat} {us : List (Option Addr × Nat × Nat)} {gv : Value} (h : Ph2 S B2 w0 w i us gv) : ∃ a c, gv = .slice a i c := by
  rcases h.2.2.1.2 with ⟨e, e0⟩ | ⟨g, cap, cur, e, _⟩
  · exact ⟨none, 0, by rw [e, e0]⟩
  · exact ⟨_, cap, e⟩

theorem Ph2.byte {S : Lists} {B2 : Nat} {w0 w : World} {i : Nat} {us : List (Option Addr × Nat × Nat)} {gv : Value} (h : Ph2 S B2 w0 w i us gv) {k q : Nat} (hk : k < S.N) (hq : q < S.L k) :
    ∃ g, S.A k = some ⟨g, 0, none⟩ ∧ w.cell? ⟨g, q, none⟩ = some (.int .u8 (mk ((S.off k + q : Nat) : Int))) := by
  obtain ⟨cs, ho, hc⟩ := h.1.2.2 k hk
  obtain ⟨g, e, _, hcell, _⟩ := ho.cell hq
  rw [hc q hq (.inl hk)] at hcell
  exact ⟨g, e, hcell⟩

theorem Ph2.grown {S : Lists} {B2 : Nat} {w0 w : World} {i c : Nat} {us : List (Option Addr × Nat × Nat)} {a : Option Addr} (h : Ph2 S B2 w0 w i us (.slice a i c)) {k : Nat} (hk : k < i) :
    ∃ gb ua uc, a = some ⟨gb, 0, none⟩ ∧ w.cell? ⟨gb, k, none⟩ = some (.slice ua (S.L k + 6) uc) ∧ ∀ q, q < 6 → ∃ g, ua = some ⟨g, 0, none⟩ ∧ w.cell? ⟨g, S.L k + q, none⟩ = some (.int .u8 (ext S k q)) := by
  have hul := h.2.1
  obtain ⟨t, ht⟩ : ∃ t, us[k]? = some t := ⟨us[k], List.getElem?_eq_getElem (by omega)⟩
  obtain ⟨h1, cs, ho, hc⟩ := h.2.2.2.1 k t ht
  rcases h.2.2.1.2 with ⟨e, e0⟩ | ⟨g, cap, cur, e, _, hh, _, _, _, htk⟩
  · omega
  · cases e
    refine ⟨g, t.1, t.2.2, rfl, ?_, fun q hq => ?_⟩
    · have hx : (cur.toList.take (i * 1))[k]? = some (sval t) := by rw [htk, List.getElem?_map, ht]; rfl
      rw [List.getElem?_take_of_lt (by omega)] at hx
      simp only [World.cell?, hh]
      rw [← h1]
      simpa [sval] using hx
    · obtain ⟨g', e', _, hcell, _⟩ := ho.cell (j := S.L k + q) (by omega)
      rw [hc q hq] at hcell
      exact ⟨g', e', hcell⟩

set_option maxRecDepth 100000 in
set_option maxHeartbeats 4000000 in
theorem apart_any (N Lb : Nat) (S : Lists) (hS : S.Good) (w : World) (hN : S.N = N) (hLb : S.Lb = Lb) (h0 : Ph1 S w w 0 0) (hB : S.B ≤ w.heap.size) :
    Calls Tryz.prog 40 #[.slice (some ⟨Lb, 0, none⟩) N N] w fun e w' => e = .returned (.bool true) ∧ BI S.B w w' := by
  have HS := hide hS
  have H0 := hide h0
  have hNb : N ≤ 64 := by rw [← hN]; exact hS.few
  have HN := hide hN
  have HL := hide hLb
  have HO0 := hide hS.off0
  clear hS h0 hN hLb
  go_enter Tryz.func40, Tryz.ntmps40
  go_wp2
  go_loopw [3, 4] (fun n i wr => ∃ p o : Nat, p ≤ N ∧ i = .int .i64 p ∧ n = .int .i64 o ∧ Hid (o = S.off p) ∧ Hid (Ph1 S w wr p 0)) (fun _ i _ => N - (intOf i).toNat)
  case atStart => exact ⟨0, 0, Nat.zero_le _, rfl, rfl, (unhide HO0).symm, H0⟩
  case round =>
    obtain ⟨p, o, hp, rfl, rfl, ho, hPh⟩ := hrel
    by_cases hlt : p < N
    · have hSg := unhide HS
      obtain ⟨A, hA⟩ : ∃ A, S.A p = A := ⟨_, rfl⟩
      obtain ⟨L, hL⟩ : ∃ L, S.L p = L := ⟨_, rfl⟩
      obtain ⟨C, hC⟩ : ∃ C, S.C p = C := ⟨_, rfl⟩
      have hob := hSg.off_bd p (by rw [unhide HN]; omega)
      rw [← ho.out] at hob
      have hLb : L ≤ 140737488351232 := by rw [← hL]; exact hSg.fit p (by rw [unhide HN]; exact hlt)
      have HA := hide hA
      have HLL := hide hL
      have HC := hide hC
      clear hA hL hC hSg
      go_wp2
      go_loopw [3, 5] (fun n j wr => ∃ q : Nat, q ≤ L ∧ j = .int .i64 q ∧ n = .int .i64 ((o + q : Nat) : Int) ∧ Hid (Ph1 S w wr p q)) (fun _ j _ => L - (intOf j).toNat)
      case atStart => exact ⟨0, Nat.zero_le _, rfl, rfl, hPh⟩
      case round =>
        obtain ⟨q, hq, rfl, rfl, hPh2⟩ := hrel
        have hls : wr.cell? ⟨Lb, p, none⟩ = some (.slice A L C) := by
          have := (unhide hPh2).ls (unhide HS) (p := p) (by rw [unhide HN]; exact hlt)
          rwa [unhide HL, unhide HA, unhide HLL, unhide HC] at this
        by_cases hlt2 : q < L
        · obtain ⟨g, v, eA, hcell, hfr, hPh3⟩ := (unhide hPh2).store (unhide HS) (by rw [unhide HN]; exact hlt) (by rw [unhide HLL]; exact hlt2)
          rw [unhide HA] at eA
          subst eA
          rw [← ho.out] at hPh3
          have HPh3 := hide hPh3
          clear hPh3
          have hltI : (q : Int) < (L : Int) := by omega
          go_wp2
          go_region_with (go_at_call 104; refine (mark_any _ _ (by omega) (by omega)).mono ?_; rintro e w' ⟨rfl, rfl⟩)
          all_goals go_wp2
          all_goals exact ⟨⟨q + 1, by omega, by go_num, by go_num, (by have h := unhide HPh3; rw [Int.natCast_add] at h; exact h.drew)⟩, by simp [intOf]; omega⟩
        · obtain rfl : q = L := by omega
          go_wp2
          exact ⟨⟨p + 1, o + q, by omega, by go_num, rfl, by show o + q = S.off (p + 1); rw [(unhide HS).offS p (by rw [unhide HN]; exact hlt), unhide HLL, ho.out], by have h := unhide hPh2; rw [← unhide HLL] at h; exact h.next⟩, by simp [intOf]; omega⟩
    · obtain rfl : p = N := by omega
      have hPhN := unhide hPh
      rw [← unhide HN] at hPhN
      have HPN := hide hPhN
      obtain ⟨B2, hB2⟩ : ∃ B2, wr.heap.size = B2 := ⟨_, rfl⟩
      have HB2 := hide hB2
      have HLt : Hid (S.Lb < B2 ∧ S.B ≤ B2) := by
        refine ⟨?_, ?_⟩
        · rw [← hB2]; exact (Array.getElem?_eq_some_iff.1 hPhN.1).1
        · rw [← hB2]; exact Nat.le_trans hB hPhN.2.1.1.size
      have hob := (unhide HS).off_bd p (by rw [unhide HN]; omega)
      rw [← ho.out] at hob
      obtain ⟨i22, hi, hz0, hz1, hz2⟩ := info_parts info22
      have HI := hide (⟨hi, hz0, hz1, hz2⟩ : Tryz.prog.info? 49 = some i22 ∧ i22.zero = some (.slice none 0 0) ∧ i22.size = 1 ∧ i22.bytes = 24)
      have HST : Hid (Ph2 S B2 w wr 0 [] (.slice none 0 0)) := Ph2.start hPhN
      clear hi hz0 hz1 hz2 hB2 hPh hPhN HPN H0 hlt
      go_wp2
      go_loopw [6, 7, 8] (fun gr kk i wr => ∃ (m : Nat) (us : List (Option Addr × Nat × Nat)), m ≤ p ∧ i = .int .i64 m ∧ kk = .int .i64 ((o + 6 * m : Nat) : Int) ∧ Hid (Ph2 S B2 w wr m us gr) ∧ Hid (B2 ≤ wr.heap.size)) (fun _ _ i _ => p - (intOf i).toNat)
      case atStart => exact ⟨0, [], Nat.zero_le _, rfl, rfl, HST, Nat.le_of_eq (unhide HB2).symm⟩
      case round =>
        obtain ⟨m, us, hm, rfl, rfl, hPh2, hsz⟩ := hrel
        clear HB2 HST
        by_cases hlt : m < p
        · obtain ⟨A, hA⟩ : ∃ A, S.A m = A := ⟨_, rfl⟩
          obtain ⟨L, hL⟩ : ∃ L, S.L m = L := ⟨_, rfl⟩
          obtain ⟨C, hC⟩ : ∃ C, S.C m = C := ⟨_, rfl⟩
          have hls : wr.cell? ⟨Lb, m, none⟩ = some (.slice A L C) := by
            have := (unhide hPh2).1.ls (unhide HS) (p := m) (by rw [unhide HN]; exact hlt)
            rwa [unhide HL, hA, hL, hC] at this
          have hLb : L ≤ 140737488351232 := by rw [← hL]; exact (unhide HS).fit m (by rw [unhide HN]; exact hlt)
          have HLL := hide hL
          have HI0 : Hid (Ph2i S B2 w wr m us u6 A C 0) := by
            have := Ph2i.start (unhide HS) (unhide hPh2) (by rw [unhide HN]; exact hlt)
            rwa [hA, hC] at this
          clear hA hL hC
          go_wp2
          go_loopw [7, 9, 10] (fun kk g j wr => ∃ (q : Nat) (ga : Option Addr) (gc : Nat), q ≤ 6 ∧ j = .int .i64 q ∧ kk = .int .i64 ((o + 6 * m + q : Nat) : Int) ∧ g = .slice ga (L + q) gc ∧ Hid (Ph2i S B2 w wr m us u6 ga gc q) ∧ Hid (B2 ≤ wr.heap.size)) (fun _ _ j _ => 6 - (intOf j).toNat)
          case atStart => exact ⟨0, A, C, by omega, rfl, rfl, rfl, HI0, hsz⟩
          case round =>
            obtain ⟨q, ga, gc, hq, rfl, rfl, rfl, hPi, hsz2⟩ := hrel
            by_cases hlt2 : q < 6
            · obtain ⟨z, hz⟩ : ∃ z, ext S m q = z := ⟨_, rfl⟩
              have hzz : mk ((o : Int) + 6 * (m : Int) + (q : Int)) = z := by
                rw [← hz]
                unfold ext
                rw [unhide HN, ← ho.out]
                congr 1 <;> omega
              obtain ⟨a', c', w', hrun, hPi', hsz3⟩ := (unhide hPi).step (unhide HS) (by rw [unhide HN]; exact hlt) hlt2 (Nat.le_trans (unhide HLt).2 hsz2.out)
              rw [hz, unhide HLL] at hrun
              have HR := hide hrun
              have HP' := hide hPi'
              have HZ3 : Hid (B2 ≤ w'.heap.size) := Nat.le_trans hsz2.out hsz3
              clear hrun hPi' hz hsz3
              go_wp2_with (first
                | (go_at_call 104; refine (mark_any _ _ (by omega) (by omega)).mono ?_; rintro e w6 ⟨rfl, rfl⟩; rw [hzz])
                | (at_builtin; refine wpList_append_run 49 rfl _ _ rfl _ _ _ rfl rfl (unhide HR) ?_))
              exact ⟨⟨q + 1, a', c', by omega, by go_num, by go_num, rfl, HP', HZ3⟩, by simp [intOf]; omega⟩
            · obtain rfl : q = 6 := by omega
              have hrw := (unhide hPi).1.2.2.1
              have HRW : Hid ((wr.alloc (.cells #[.slice ga (L + 6) gc] 49)).ownsRow B2 49 1 u6 m (us.map sval)) := hrw.alloc _
              have HNW : Hid (∀ (j : Nat) (u : Value), [Value.slice ga (L + 6) gc][j]? = some u → (wr.alloc (.cells #[.slice ga (L + 6) gc] 49)).cell? ((⟨wr.heap.size, 0, none⟩ : Addr).add j) = some u) := by
                intro j u hj
                cases j with
                | zero => simp at hj; subst hj; rw [World.add_zero_spot]; exact (Boxed.new wr 49 _).cell
                | succ j => simp at hj
              have HM : Hid (m + 1 ≤ maxLen ∧ (m + 1) * 24 ≤ 140737488355328) := ⟨by unfold maxLen; omega, by omega⟩
              have HBs : Hid (B2 ≤ (wr.alloc (.cells #[.slice ga (L + 6) gc] 49)).heap.size) := Nat.le_trans hsz2.out (by simp)
              have HOC : Hid (∀ u ∈ [Value.slice ga (L + 6) gc], u.oneCell' = true) := by intro u hu; simp at hu; subst hu; rfl
              clear hrw
              go_wp2_with (at_builtin; refine wpList_append_own _ rfl _ _ 69 rfl B2 49 i22 (.slice none 0 0) 1 24 Tryz.underlying69 (unhide HI).1 (unhide HI).2.1 (unhide HI).2.2.1 (unhide HI).2.2.2 rfl (by decide) u6 m (us.map sval) rfl (unhide HRW) ⟨wr.heap.size, 0, none⟩ 1 1 [.slice ga (L + 6) gc] rfl rfl (unhide HNW) (unhide HOC) (unhide HM).1 (unhide HM).2 (unhide HBs) ?_; intro gv' w5 hrow hgrow _)
              refine ⟨⟨m + 1, us ++ [(ga, S.L m + 6, gc)], by omega, by go_num, by go_num, ?_, Nat.le_trans (unhide HBs) hgrow.size⟩, by simp [intOf]; omega⟩
              rw [← unhide HLL] at hrow
              exact (unhide hPi).done (unhide HS) (by rw [unhide HN]; exact hlt) (Nat.le_trans (unhide HLt).2 hsz2.out) (unhide HLt).1 (unhide HLt).2 _ hrow hgrow
        · obtain rfl : m = p := by omega
          obtain ⟨gva, gvc, rfl⟩ := (unhide hPh2).shape
          clear HLt HI hsz hlt
          go_wp2
          go_loopw [3, 11] (fun n i wr => ∃ k oo : Nat, k ≤ m ∧ i = .int .i64 k ∧ n = .int .i64 oo ∧ Hid (oo = S.off k) ∧ Hid (Ph2 S B2 w wr m us (.slice gva m gvc))) (fun _ i _ => m - (intOf i).toNat)
          case atStart => exact ⟨0, 0, Nat.zero_le _, rfl, rfl, (unhide HO0).symm, hPh2⟩
          case round =>
            obtain ⟨k, oo, hk, rfl, rfl, hoo, hP3⟩ := hrel
            clear hPh2
            by_cases hlt : k < m
            · obtain ⟨A, hA⟩ : ∃ A, S.A k = A := ⟨_, rfl⟩
              obtain ⟨L, hL⟩ : ∃ L, S.L k = L := ⟨_, rfl⟩
              obtain ⟨C, hC⟩ : ∃ C, S.C k = C := ⟨_, rfl⟩
              have hLb : L ≤ 140737488351232 := by rw [← hL]; exact (unhide HS).fit k (by rw [unhide HN]; exact hlt)
              have hob2 := (unhide HS).off_bd k (by rw [unhide HN]; omega)
              rw [← hoo.out] at hob2
              have HA := hide hA
              have HLL := hide hL
              have HC := hide hC
              clear hA hL hC
              go_wp2
              go_loopw [3, 12] (fun n j wr => ∃ q : Nat, q ≤ L ∧ j = .int .i64 q ∧ n = .int .i64 ((oo + q : Nat) : Int) ∧ Hid (Ph2 S B2 w wr m us (.slice gva m gvc))) (fun _ j _ => L - (intOf j).toNat)
              case atStart => exact ⟨0, Nat.zero_le _, rfl, rfl, hP3⟩
              case round =>
                obtain ⟨q, hq, rfl, rfl, hP4⟩ := hrel
                clear hP3
                have hls : wr.cell? ⟨Lb, k, none⟩ = some (.slice A L C) := by
                  have := (unhide hP4).1.ls (unhide HS) (p := k) (by rw [unhide HN]; exact hlt)
                  rwa [unhide HL, unhide HA, unhide HLL, unhide HC] at this
                by_cases hlt2 : q < L
                · obtain ⟨g, eA, hcell⟩ := (unhide hP4).byte (k := k) (q := q) (by rw [unhide HN]; exact hlt) (by rw [unhide HLL]; exact hlt2)
                  rw [unhide HA] at eA
                  subst eA
                  rw [← hoo.out, Int.natCast_add] at hcell
                  have hltI : (q : Int) < (L : Int) := by omega
                  have hltK : (k : Int) < (m : Int) := by omega
                  go_wp2
                  go_quiet ((go_at_call 104; exact Calls.quiet_of_same (mark_same _ _ (by omega) (by omega))))
                  go_wp2
                  exact ⟨⟨q + 1, by omega, by go_num, by go_num, (unhide hP4).drewN _⟩, by simp [intOf]; omega⟩
                · obtain rfl : q = L := by omega
                  go_wp2
                  exact ⟨⟨k + 1, oo + q, by omega, by go_num, rfl, by show oo + q = S.off (k + 1); rw [(unhide HS).offS k (by rw [unhide HN]; exact hlt), unhide HLL, hoo.out], hP4⟩, by simp [intOf]; omega⟩
            · obtain rfl : k = m := by omega
              have hoe : oo = o := by rw [hoo.out, ho.out]
              subst hoe
              clear hoo hlt
              go_wp2
              go_loopw [3, 13] (fun n i wr => ∃ m : Nat, m ≤ k ∧ i = .int .i64 m ∧ n = .int .i64 ((oo + 6 * m : Nat) : Int) ∧ Hid (Ph2 S B2 w wr k us (.slice gva k gvc))) (fun _ i _ => k - (intOf i).toNat)
              case atStart => exact ⟨0, Nat.zero_le _, rfl, rfl, hP3⟩
              case round =>
                obtain ⟨m, hm4, rfl, rfl, hP5⟩ := hrel
                clear hP3
                by_cases hlt : m < k
                · obtain ⟨A, hA⟩ : ∃ A, S.A m = A := ⟨_, rfl⟩
                  obtain ⟨L, hL⟩ : ∃ L, S.L m = L := ⟨_, rfl⟩
                  obtain ⟨C, hC⟩ : ∃ C, S.C m = C := ⟨_, rfl⟩
                  have hLb : L ≤ 140737488351232 := by rw [← hL]; exact (unhide HS).fit m (by rw [unhide HN]; exact hlt)
                  have hls : wr.cell? ⟨Lb, m, none⟩ = some (.slice A L C) := by
                    have := (unhide hP5).1.ls (unhide HS) (p := m) (by rw [unhide HN]; exact hlt)
                    rwa [unhide HL, hA, hL, hC] at this
                  have HLL := hide hL
                  clear hA hL hC
                  go_wp2
                  go_loopw [3, 14] (fun n j wr => ∃ q : Nat, q ≤ 6 ∧ j = .int .i64 ((L + q : Nat) : Int) ∧ n = .int .i64 ((oo + 6 * m + q : Nat) : Int) ∧ Hid (Ph2 S B2 w wr k us (.slice gva k gvc))) (fun _ j _ => L + 6 - (intOf j).toNat)
                  case atStart => exact ⟨0, by omega, rfl, rfl, hP5⟩
                  case round =>
                    obtain ⟨q, hq, rfl, rfl, hP6⟩ := hrel
                    clear hP5 hls
                    obtain ⟨gb, ua, uc, e, hgc, hgx⟩ := (unhide hP6).grown hlt
                    subst e
                    rw [unhide HLL] at hgc
                    have HGX := hide hgx
                    clear hgx
                    have hltK : (m : Int) < (k : Int) := by omega
                    by_cases hlt2 : q < 6
                    · obtain ⟨g, e2, hcell⟩ := unhide HGX q hlt2
                      subst e2
                      have hext : ext S m q = mk ((oo : Int) + 6 * (m : Int) + (q : Int)) := by
                        unfold ext
                        rw [unhide HN, ← ho.out]
                        congr 1 <;> omega
                      rw [unhide HLL, hext] at hcell
                      clear hext HGX
                      have hltI : ((L + q : Nat) : Int) < ((L + 6 : Nat) : Int) := by omega
                      go_wp2
                      go_quiet ((go_at_call 104; exact Calls.quiet_of_same (mark_same _ _ (by omega) (by omega))))
                      go_wp2
                      exact ⟨⟨q + 1, by omega, by go_num, by go_num, (unhide hP6).drewN _⟩, by simp [intOf]; omega⟩
                    · obtain rfl : q = 6 := by omega
                      clear HGX
                      go_wp2
                      exact ⟨⟨m + 1, by omega, by go_num, by go_num, hP6⟩, by simp [intOf]; omega⟩
                · obtain rfl : m = k := by omega
                  go_wp2
                  go_ret
                  exact ⟨rfl, (unhide hP5).1.2.1⟩

abbrev Trip := Option Addr × Nat × Nat

def tripAt (ts : List Trip) (p : Nat) : Trip := ts[p]?.getD (none, 0, 0)

def sumTo (ts : List Trip) : Nat → Nat
  | 0 => 0
  | p + 1 => sumTo ts p + (tripAt ts p).2.1

def listsOf (B Lb : Nat) (ts : List Trip) : Lists :=
  { N := ts.length, B := B, Lb := Lb, ca := (ts.map sval).toArray, A := fun p => (tripAt ts p).1, L := fun p => (tripAt ts p).2.1, C := fun p => (tripAt ts p).2.2, off := sumTo ts }

def Aside (t u : Trip) : Prop := ∀ g, t.1 = some ⟨g, 0, none⟩ → u.1 ≠ some ⟨g, 0, none⟩

theorem tripAt_eq {ts : List Trip} {p : Nat} (h : p < ts.length) : tripAt ts p = ts[p] := by simp [tripAt, List.getElem?_eq_getElem h]

theorem listsOf_good {B Lb : Nat} {ts : List Trip} (h1 : ts.length ≤ 64) (h2 : ∀ t ∈ ts, t.2.1 ≤ 140737488351232) (h3 : B ≤ Lb) (h4 : ts.Pairwise Aside) : (listsOf B Lb ts).Good where
  few := h1
  size := by simp [listsOf]
  at' := fun p hp => by
    have hp' : p < ts.length := hp
    simp [listsOf, tripAt, List.getElem?_eq_getElem hp', sval]
  off0 := rfl
  offS := fun p hp => rfl
  fit := fun p hp => by
    have hp' : p < ts.length := hp
    show (tripAt ts p).2.1 ≤ _
    rw [tripAt_eq hp']; exact h2 _ (List.getElem_mem hp')
  base := h3
  apart := fun p p' hp hp' hne g e e' => by
    have hq : p < ts.length := hp
    have hq' : p' < ts.length := hp'
    have k1 : (tripAt ts p).1 = some ⟨g, 0, none⟩ := e
    have k2 : (tripAt ts p').1 = some ⟨g, 0, none⟩ := e'
    rw [tripAt_eq hq] at k1
    rw [tripAt_eq hq'] at k2
    rcases Nat.lt_or_ge p p' with hlt | hge
    · exact List.pairwise_iff_getElem.1 h4 p p' hq hq' hlt g k1 k2
    · exact List.pairwise_iff_getElem.1 h4 p' p hq' hq (by omega) g k2 k1

theorem listsOf_ph1 {B Lb : Nat} {ts : List Trip} {w : World} (hL : w.heap[Lb]? = some (.cells (ts.map sval).toArray 49 (0, 0))) (ho : ∀ t ∈ ts, ∃ xs, Own B w t.1 t.2.1 t.2.2 xs) : Ph1 (listsOf B Lb ts) w w 0 0 := by
  refine ⟨hL, BI.refl _ _, fun p hp => ?_⟩
  have hp' : p < ts.length := hp
  obtain ⟨xs, hx⟩ := ho _ (List.getElem_mem hp')
  refine ⟨xs, ?_, fun q _ h => by omega⟩
  show Own B w (tripAt ts p).1 (tripAt ts p).2.1 (tripAt ts p).2.2 xs
  rw [tripAt_eq hp']
  exact hx

theorem apart_list (B Lb N : Nat) (ts : List Trip) (w : World) (hN : ts.length = N) (h1 : N ≤ 64) (h2 : ∀ t ∈ ts, t.2.1 ≤ 140737488351232) (h3 : B ≤ Lb) (h4 : ts.Pairwise Aside) (hL : w.heap[Lb]? = some (.cells (ts.map sval).toArray 49 (0, 0)))
    (ho : ∀ t ∈ ts, ∃ xs, Own B w t.1 t.2.1 t.2.2 xs) :
    Calls Tryz.prog 40 #[.slice (some ⟨Lb, 0, none⟩) N N] w fun e w' => e = .returned (.bool true) ∧ BI B w w' :=
  apart_any N Lb (listsOf B Lb ts) (listsOf_good (by omega) h2 h3 h4) w hN rfl (listsOf_ph1 hL ho) (by
    have := (Array.getElem?_eq_some_iff.1 hL).1
    show B ≤ _
    omega)

end Go.Proofs.YtdkicniciciobaaGreatDoor

/- The contract of skerryref01.BytesApart, with a narrower frame (written by tools/gen_gapartf.py out of GApart). -/
namespace Go.Proofs.YtdkicniciciobaaGreatDoor.FA
open Go.RowKit Go.Shelf
set_option linter.unusedVariables false
set_option maxRecDepth 100000

def Stay (T : Nat → Prop) (w0 w : World) : Prop := ∀ k, k < w0.heap.size → ¬ T k → w.heap[k]? = w0.heap[k]?

def BI (B : Nat) (T : Nat → Prop) (w0 w : World) : Prop := Below B w0 w ∧ Stay T w0 w

theorem BI.refl (B : Nat) (T : Nat → Prop) (w : World) : BI B T w w := ⟨Below.refl _ _, fun _ _ _ => rfl⟩
theorem BI.drew {B : Nat} {T : Nat → Prop} {w0 w : World} (h : BI B T w0 w) : BI B T w0 w.drew := ⟨h.1.drew, h.2⟩
theorem BI.trans {B : Nat} {T : Nat → Prop} {w0 w w' : World} (h : BI B T w0 w) (hb : Below B w w') (hs : ∀ k, k < w0.heap.size → ¬ T k → w'.heap[k]? = w.heap[k]?) : BI B T w0 w' := ⟨h.1.trans hb, fun k hk hn => (hs k hk hn).trans (h.2 k hk hn)⟩
theorem BI.setCell {B : Nat} {T : Nat → Prop} {w0 w : World} (h : BI B T w0 w) {g j : Nat} (hg : B ≤ g) (h5 : T g) (v : Value) : BI B T w0 (w.setCell ⟨g, j, none⟩ v) := by
  refine h.trans ((Below.refl _ _).setCell (p := ⟨g, j, none⟩) hg _) fun k hk hn => ?_
  have hne : k ≠ g := by
    rintro rfl
    exact hn h5
  exact Below.heap_setCell _ _ _ _ hne

def T (S : Lists) (k : Nat) : Prop := ∃ p, p < S.N ∧ S.A p = some ⟨k, 0, none⟩

def Ph1 (S : Lists) (w0 w : World) (i j : Nat) : Prop :=
  w.heap[S.Lb]? = some (.cells S.ca 49 (0, 0)) ∧ BI S.B (T S) w0 w ∧
    ∀ p, p < S.N → ∃ cs, Own S.B w (S.A p) (S.L p) (S.C p) cs ∧ ∀ q, q < S.L p → (p < i ∨ (p = i ∧ q < j)) → cs[q]?.getD 0 = mk ((S.off p + q : Nat) : Int)

theorem Ph1.ls {S : Lists} (hS : S.Good) {w0 w : World} {i j : Nat} (h : Ph1 S w0 w i j) {p : Nat} (hp : p < S.N) : w.cell? ⟨S.Lb, p, none⟩ = some (.slice (S.A p) (S.L p) (S.C p)) := by
  simp only [World.cell?, h.1]
  simpa using hS.at' p hp

theorem Ph1.drew {S : Lists} {w0 w : World} {i j : Nat} (h : Ph1 S w0 w i j) : Ph1 S w0 w.drew i j := ⟨h.1, h.2.1.drew, h.2.2⟩

theorem Ph1.next {S : Lists} {w0 w : World} {i : Nat} (h : Ph1 S w0 w i (S.L i)) : Ph1 S w0 w (i + 1) 0 := by
  refine ⟨h.1, h.2.1, fun p hp => ?_⟩
  obtain ⟨cs, ho, hc⟩ := h.2.2 p hp
  refine ⟨cs, ho, fun q hq hx => hc q hq ?_⟩
  by_cases e : p = i
  · subst e; exact .inr ⟨rfl, hq⟩
  · exact .inl (by omega)

theorem Ph1.store {S : Lists} (hS : S.Good) {w0 w : World} {i j : Nat} (h : Ph1 S w0 w i j) (hi : i < S.N) (hj : j < S.L i) :
    ∃ g v, S.A i = some ⟨g, 0, none⟩ ∧ w.cell? ⟨g, j, none⟩ = some v ∧ w.frozen? ⟨g, j, none⟩ = false ∧ Ph1 S w0 (w.setCell ⟨g, j, none⟩ (.int .u8 (mk ((S.off i + j : Nat) : Int)))) i (j + 1) := by
  obtain ⟨cs, ho, hc⟩ := h.2.2 i hi
  obtain ⟨g, e, hg, hcell, hfr⟩ := ho.cell hj
  refine ⟨g, _, e, hcell, hfr, ?_, h.2.1.setCell hg ⟨i, hi, e⟩ _, fun p hp => ?_⟩
  · have hne : S.Lb ≠ g := by
      rintro rfl
      rw [e] at ho
      obtain ⟨_, _, _, h4⟩ := ho
      rcases h4 with ⟨h4, _⟩ | ⟨g', cur, e', _, hh, _⟩
      · cases h4
      · cases e'
        rw [h.1] at hh
        simp at hh
    exact (Below.heap_setCell _ _ _ _ hne).trans h.1
  · by_cases hpi : p = i
    · subst hpi
      rw [e] at ho
      have hs := ho.set j (mk ((S.off p + j : Nat) : Int))
      rw [e]
      refine ⟨_, hs, fun q hq hx => ?_⟩
      have hl := ho.1
      by_cases hqj : q = j
      · subst hqj
        rw [List.getElem?_set_self (by omega)]; rfl
      · rw [List.getElem?_set_ne (by omega)]
        exact hc q hq (by omega)
    · obtain ⟨cs', ho', hc'⟩ := h.2.2 p hp
      refine ⟨cs', ho'.kept (fun g' e' => Below.heap_setCell _ _ _ _ ?_), fun q hq hx => hc' q hq (by omega)⟩
      rintro rfl
      exact hS.apart i p hi hp (by omega) _ e e'

def Ph2 (S : Lists) (B2 : Nat) (w0 w : World) (i : Nat) (us : List (Option Addr × Nat × Nat)) (gv : Value) : Prop :=
  Ph1 S w0 w S.N 0 ∧ us.length = i ∧ w.ownsRow B2 49 1 gv i (us.map sval) ∧
  (∀ p t, us[p]? = some t → t.2.1 = S.L p + 6 ∧ ∃ cs, Own S.B w t.1 t.2.1 t.2.2 cs ∧ ∀ q, q < 6 → cs[S.L p + q]?.getD 0 = ext S p q) ∧
  (∀ t ∈ us, ∀ k, i ≤ k → k < S.N → ∀ g, S.A k = some ⟨g, 0, none⟩ → t.1 ≠ some ⟨g, 0, none⟩)

def Ph2i (S : Lists) (B2 : Nat) (w0 w : World) (i : Nat) (us : List (Option Addr × Nat × Nat)) (gv : Value) (ga : Option Addr) (gc j : Nat) : Prop :=
  Ph2 S B2 w0 w i us gv ∧
  (∃ cs, Own S.B w ga (S.L i + j) gc cs ∧ (∀ q, q < S.L i → cs[q]?.getD 0 = mk ((S.off i + q : Nat) : Int)) ∧ ∀ q, q < j → cs[S.L i + q]?.getD 0 = ext S i q) ∧
  (∀ t ∈ us, ∀ g, ga = some ⟨g, 0, none⟩ → t.1 ≠ some ⟨g, 0, none⟩) ∧
  (∀ k, k < S.N → k ≠ i → ∀ g, ga = some ⟨g, 0, none⟩ → S.A k ≠ some ⟨g, 0, none⟩) ∧
  ((ga = S.A i ∧ gc = S.C i) ∨ ∀ g, ga = some ⟨g, 0, none⟩ → S.A i ≠ some ⟨g, 0, none⟩) ∧
  (∀ g, ga = some ⟨g, 0, none⟩ → T S g ∨ w0.heap.size ≤ g)

theorem Ph2.kept {S : Lists} {B2 : Nat} {w0 w w' : World} {i : Nat} {us : List (Option Addr × Nat × Nat)} {gv : Value} (hS : S.Good) (h : Ph2 S B2 w0 w i us gv) (ga : Option Addr) (hB : Below S.B w w')
    (h5 : ∀ g, ga = some ⟨g, 0, none⟩ → ∃ cur, w.heap[g]? = some (.cells cur 5 (0, 0)))
    (hTg : ∀ g, ga = some ⟨g, 0, none⟩ → T S g ∨ w0.heap.size ≤ g)
    (hk : ∀ k, k < w.heap.size → (∀ g, ga = some ⟨g, 0, none⟩ → k ≠ g) → w'.heap[k]? = w.heap[k]?)
    (hu : ∀ t ∈ us, ∀ g, ga = some ⟨g, 0, none⟩ → t.1 ≠ some ⟨g, 0, none⟩)
    (hA : ∀ k, k < S.N → k ≠ i → ∀ g, ga = some ⟨g, 0, none⟩ → S.A k ≠ some ⟨g, 0, none⟩)
    (hi : i < S.N → ∃ cs, Own S.B w' (S.A i) (S.L i) (S.C i) cs ∧ ∀ q, q < S.L i → cs[q]?.getD 0 = mk ((S.off i + q : Nat) : Int)) : Ph2 S B2 w0 w' i us gv := by
  obtain ⟨⟨hL, hBw, hown⟩, hul, hrow, hus, hfu⟩ := h
  have hty : ∀ (k : Nat) (cur : Array Value), w.heap[k]? = some (Obj.cells cur 49 (0, 0)) → w'.heap[k]? = w.heap[k]? := by
    intro k cur hh
    refine hk k (Array.getElem?_eq_some_iff.1 hh).1 (fun g e hkg => ?_)
    subst hkg
    obtain ⟨cur', h'⟩ := h5 _ e
    rw [hh] at h'; simp at h'
  have hstay : ∀ k, k < w0.heap.size → ¬ T S k → w'.heap[k]? = w.heap[k]? := by
    intro k hk0 hn
    refine hk k (Nat.lt_of_lt_of_le hk0 hBw.1.size) (fun g e hkg => ?_)
    subst hkg
    rcases hTg _ e with h | h
    · exact hn h
    · omega
  refine ⟨⟨(hty _ _ hL).trans hL, hBw.trans hB hstay, fun p hp => ?_⟩, hul, ownsRow_block hrow (fun g cur _ hh => hty g cur hh), fun p t ht => ?_, hfu⟩
  · by_cases hpi : p = i
    · subst hpi
      obtain ⟨cs, ho, hc⟩ := hi hp
      exact ⟨cs, ho, fun q hq _ => hc q hq⟩
    · obtain ⟨cs, ho, hc⟩ := hown p hp
      refine ⟨cs, ho.kept (fun g e => hk g (ho.lt e).1 (fun g' e' hgg => ?_)), hc⟩
      subst hgg
      exact hA p hp hpi _ e' e
  · obtain ⟨h1, cs, ho, hc⟩ := hus p t ht
    refine ⟨h1, cs, ho.kept (fun g e => hk g (ho.lt e).1 (fun g' e' hgg => ?_)), hc⟩
    subst hgg
    exact hu t (List.mem_of_getElem? ht) _ e' e

theorem Ph2.drewN {S : Lists} {B2 : Nat} {w0 w : World} {i : Nat} {us : List (Option Addr × Nat × Nat)} {gv : Value} (h : Ph2 S B2 w0 w i us gv) (n : Nat) : Ph2 S B2 w0 (w.drewN n) i us gv :=
  ⟨⟨h.1.1, h.1.2.1.trans (below_drewN (Below.refl _ _) n) (fun _ _ _ => rfl), h.1.2.2⟩, h.2.1, h.2.2.1, h.2.2.2⟩

theorem Ph2.alloc {S : Lists} {B2 : Nat} {w0 w : World} {i : Nat} {us : List (Option Addr × Nat × Nat)} {gv : Value} (hS : S.Good) (h : Ph2 S B2 w0 w i us gv) (hB : S.B ≤ w.heap.size) (o : Obj) : Ph2 S B2 w0 (w.alloc o) i us gv := by
  refine h.kept hS none ((Below.refl _ w).alloc hB o) (fun g e => by cases e) (fun g e => by cases e) (fun k hk _ => Below.heap_alloc w o k hk) (fun _ _ g e => by cases e) (fun _ _ _ g e => by cases e) (fun hi => ?_)
  obtain ⟨cs, ho, hc⟩ := h.1.2.2 i hi
  exact ⟨cs, ho.kept (fun g e => Below.heap_alloc w o g (ho.lt e).1), fun q hq => hc q hq (.inl hi)⟩

theorem Ph2.start {S : Lists} {w0 w : World} {B2 : Nat} (h : Ph1 S w0 w S.N 0) : Ph2 S B2 w0 w 0 [] (.slice none 0 0) :=
  ⟨h, rfl, World.ownsRow_nil w B2 49 1, by simp, by simp⟩

theorem Ph2i.start {S : Lists} (hS : S.Good) {B2 : Nat} {w0 w : World} {i : Nat} {us : List (Option Addr × Nat × Nat)} {gv : Value} (h : Ph2 S B2 w0 w i us gv) (hi : i < S.N) : Ph2i S B2 w0 w i us gv (S.A i) (S.C i) 0 := by
  obtain ⟨cs, ho, hc⟩ := h.1.2.2 i hi
  exact ⟨h, ⟨cs, ho, fun q hq => hc q hq (.inl hi), fun q hq => by omega⟩, fun t ht g e => h.2.2.2.2 t ht i (Nat.le_refl _) hi g e, fun k hk hki g e => hS.apart i k hi hk (by omega) g e, .inl ⟨rfl, rfl⟩, fun g e => .inl ⟨i, hi, e⟩⟩

theorem Ph2i.step {S : Lists} (hS : S.Good) {B2 : Nat} {w0 w : World} {i : Nat} {us : List (Option Addr × Nat × Nat)} {gv : Value} {ga : Option Addr} {gc j : Nat} (h : Ph2i S B2 w0 w i us gv ga gc j) (hi : i < S.N) (hj : j < 6) (hB : S.B ≤ w.heap.size) :
    ∃ a' c' w', (∀ ty, (Builtin.append_ #[49, 49] ty #[.slice ga (S.L i + j) gc, .slice (some ⟨w.heap.size, 0, none⟩) 1 1]).run Tryz.prog (w.alloc (.cells #[.int .u8 (ext S i j)] 5)) = .ok (.slice a' (S.L i + j + 1) c') w') ∧
      Ph2i S B2 w0 w' i us gv a' c' (j + 1) ∧ w.heap.size ≤ w'.heap.size := by
  obtain ⟨h2, ⟨cs, ho, hm, he⟩, hu, hA, hd, hTg⟩ := h
  obtain ⟨z, hz⟩ : ∃ z, ext S i j = z := ⟨_, rfl⟩
  have hfit := hS.fit i hi
  have h2' := h2.alloc hS hB (.cells #[.int .u8 (ext S i j)] 5)
  have ho' : Own S.B (w.alloc (.cells #[.int .u8 (ext S i j)] 5)) ga (S.L i + j) gc cs := ho.kept (fun g e => Below.heap_alloc w _ g (ho.lt e).1)
  have hnew : (w.alloc (.cells #[.int .u8 (ext S i j)] 5)).cell? ⟨w.heap.size, 0, none⟩ = some (.int .u8 (ext S i j)) := (Boxed.new w 5 (.int .u8 (ext S i j))).cell
  obtain ⟨w1, hw1⟩ : ∃ w1, w.alloc (.cells #[.int .u8 (ext S i j)] 5) = w1 := ⟨_, rfl⟩
  have hsz : w1.heap.size = w.heap.size + 1 := by rw [← hw1]; simp
  rw [hw1] at h2' ho' hnew ⊢
  -- the type's number is not used by the run
  have hall := fun ty => run_append_byte S.B w1 ty ga (S.L i + j) gc cs ho' (by omega) w.heap.size (ext S i j) hnew (by omega)
  obtain ⟨a', c', w', hr, hown, hk, hb, hcase⟩ := hall 0
  refine ⟨a', c', w', fun ty => ?_, ?_, ?_⟩
  · have hty : (Builtin.append_ #[49, 49] ty #[.slice ga (S.L i + j) gc, .slice (some ⟨w.heap.size, 0, none⟩) 1 1]) = (Builtin.append_ #[49, 49] 0 #[.slice ga (S.L i + j) gc, .slice (some ⟨w.heap.size, 0, none⟩) 1 1]) := rfl
    rw [hty]; exact hr
  · have hmark : ∀ q, q < S.L i → (cs ++ [ext S i j])[q]?.getD 0 = mk ((S.off i + q : Nat) : Int) := by
      intro q hq
      have := ho.1
      rw [List.getElem?_append_left (by omega)]; exact hm q hq
    have hextra : ∀ q, q < j + 1 → (cs ++ [ext S i j])[S.L i + q]?.getD 0 = ext S i q := by
      intro q hq
      have hl := ho.1
      by_cases hqj : q = j
      · subst hqj
        rw [List.getElem?_append_right (by omega), hl, Nat.sub_self]; rfl
      · rw [List.getElem?_append_left (by omega)]; exact he q (by omega)
    have hAi : i < S.N → ∃ cs, Own S.B w' (S.A i) (S.L i) (S.C i) cs ∧ ∀ q, q < S.L i → cs[q]?.getD 0 = mk ((S.off i + q : Nat) : Int) := by
      intro _
      rcases hcase with ⟨rfl, rfl, hpre⟩ | ⟨g', rfl, hg', hsame⟩
      · rcases hd with ⟨e1, e2⟩ | hd
        · rw [← e1, ← e2]
          refine ⟨_, hpre (S.L i) (by omega), fun q hq => ?_⟩
          rw [List.getElem?_take_of_lt hq]; exact hm q hq
        · obtain ⟨cs', hoA, hcA⟩ := h2'.1.2.2 i hi
          refine ⟨cs', hoA.kept (fun g e => hk g (hoA.lt e).1 (fun g2 e2 hgg => ?_)), fun q hq => hcA q hq (.inl hi)⟩
          subst hgg
          exact hd _ e2 e
      · obtain ⟨cs', hoA, hcA⟩ := h2'.1.2.2 i hi
        exact ⟨cs', hoA.kept (fun g e => hsame g (hoA.lt e).1), fun q hq => hcA q hq (.inl hi)⟩
    have h2'' := h2'.kept hS ga hb (fun g e => (ho'.lt e).2.2) hTg hk hu hA hAi
    refine ⟨h2'', ⟨cs ++ [ext S i j], hown, hmark, hextra⟩, ?_, ?_, ?_, ?_⟩
    · rcases hcase with ⟨rfl, rfl, _⟩ | ⟨g', rfl, hg', _⟩
      · exact hu
      · intro t ht g e e2
        cases e
        obtain ⟨p, hp⟩ := List.getElem?_of_mem ht
        obtain ⟨_, cs2, ho2, _⟩ := h2'.2.2.2.1 p t hp
        have := (ho2.lt e2).1
        omega
    · rcases hcase with ⟨rfl, rfl, _⟩ | ⟨g', rfl, hg', _⟩
      · exact hA
      · intro k hk' hki g e e2
        cases e
        obtain ⟨cs2, ho2, _⟩ := h2'.1.2.2 k hk'
        have := (ho2.lt e2).1
        omega
    · rcases hcase with ⟨rfl, rfl, _⟩ | ⟨g', rfl, hg', _⟩
      · exact hd
      · refine .inr (fun g e e2 => ?_)
        cases e
        obtain ⟨cs2, ho2, _⟩ := h2'.1.2.2 i hi
        have := (ho2.lt e2).1
        omega
    · rcases hcase with ⟨rfl, rfl, _⟩ | ⟨g', rfl, hg', _⟩
      · exact hTg
      · intro g e
        cases e
        have := h2'.1.2.1.1.size
        exact .inr (by omega)
  · have := hb.size; omega

theorem Ph2i.done {S : Lists} (hS : S.Good) {B2 : Nat} {w0 w w' : World} {i : Nat} {us : List (Option Addr × Nat × Nat)} {gv gv' : Value} {ga : Option Addr} {gc : Nat} (h : Ph2i S B2 w0 w i us gv ga gc 6) (hi : i < S.N) (hB : S.B ≤ w.heap.size) (hLb : S.Lb < B2) (hBB : S.B ≤ B2) (h02 : w0.heap.size ≤ B2)
    (o : Obj) (hrow : w'.ownsRow B2 49 1 gv' (i + 1) (us.map sval ++ [.slice ga (S.L i + 6) gc])) (hg : (w.alloc o).grownBy w' gv.ownBlock) : Ph2 S B2 w0 w' (i + 1) (us ++ [(ga, S.L i + 6, gc)]) gv' := by
  obtain ⟨h2, ⟨cs, ho, hm, he⟩, hu, hA, hd, hTg⟩ := h
  have h2' := h2.alloc hS hB o
  have hrow0 := h2'.2.2.1
  have hkb : ∀ k, k < (w.alloc o).heap.size → (k < B2 ∨ ∃ cur, (w.alloc o).heap[k]? = some (.cells cur 5 (0, 0))) → w'.heap[k]? = (w.alloc o).heap[k]? := by
    intro k hk hx
    refine hg.block k hk (fun e => ?_)
    rcases hrow0.2 with ⟨e0, _⟩ | ⟨g, cap, cur, e0, hb, hh, _⟩
    · rw [e0] at e; cases e
    · rw [e0] at e
      simp only [Value.ownBlock, Option.some.injEq] at e
      subst e
      rcases hx with hx | ⟨cur', hx⟩
      · omega
      · rw [hh] at hx; simp at hx
  have hstay : ∀ k, k < w0.heap.size → ¬ T S k → w'.heap[k]? = (w.alloc o).heap[k]? := by
    intro k hk0 hn
    refine hg.block k (Nat.lt_of_lt_of_le hk0 h2'.1.2.1.1.size) (fun e => ?_)
    rcases hrow0.2 with ⟨e0, _⟩ | ⟨g, cap, cur, e0, hb, hh', _⟩
    · rw [e0] at e; cases e
    · rw [e0] at e
      simp only [Value.ownBlock, Option.some.injEq] at e
      subst e
      omega
  have hkO : ∀ {a : Option Addr} {n c : Nat} {xs : List Int}, Own S.B (w.alloc o) a n c xs → Own S.B w' a n c xs := by
    intro a n c xs hO
    exact hO.kept (fun g e => hkb g (hO.lt e).1 (.inr (hO.lt e).2.2))
  have ho' : Own S.B (w.alloc o) ga (S.L i + 6) gc cs := ho.kept (fun g e => Below.heap_alloc w _ g (ho.lt e).1)
  have hLlt : S.Lb < (w.alloc o).heap.size := (Array.getElem?_eq_some_iff.1 h2'.1.1).1
  refine ⟨⟨(hkb _ hLlt (.inl hLb)).trans h2'.1.1, h2'.1.2.1.trans ⟨hg.os, hg.tape, hg.output, hg.size, fun k hk => hkb k (by simp; omega) (.inl (by omega))⟩ hstay, fun p hp => ?_⟩, by simp [h2.2.1], by simpa [sval] using hrow, fun p t ht => ?_, ?_⟩
  · obtain ⟨cs', hO, hc⟩ := h2'.1.2.2 p hp
    exact ⟨cs', hkO hO, hc⟩
  · by_cases hp : p < us.length
    · rw [List.getElem?_append_left hp] at ht
      obtain ⟨h1, cs', hO, hc⟩ := h2'.2.2.2.1 p t ht
      exact ⟨h1, cs', hkO hO, hc⟩
    · have hul := h2.2.1
      rw [List.getElem?_append_right (by omega)] at ht
      have hpi : p = i := by
        have := (List.getElem?_eq_some_iff.1 ht).1
        simp at this; omega
      subst hpi
      rw [hul, Nat.sub_self] at ht
      simp at ht
      subst ht
      exact ⟨rfl, cs, hkO ho', he⟩
  · intro t ht k hk hkN g e
    rcases List.mem_append.1 ht with ht | ht
    · exact h2.2.2.2.2 t ht k (by omega) hkN g e
    · simp at ht
      subst ht
      intro e2
      exact hA k hkN (by omega) g e2 e

theorem Ph2.shape {S : Lists} {B2 : Nat} {w0 w : World} {i : Nat} {us : List (Option Addr × Nat × Nat)} {gv : Value} (h : Ph2 S B2 w0 w i us gv) : ∃ a c, gv = .slice a i c := by
  rcases h.2.2.1.2 with ⟨e, e0⟩ | ⟨g, cap, cur, e, _⟩
  · exact ⟨none, 0, by rw [e, e0]⟩
  · exact ⟨_, cap, e⟩

theorem Ph2.byte {S : Lists} {B2 : Nat} {w0 w : World} {i : Nat} {us : List (Option Addr × Nat × Nat)} {gv : Value} (h : Ph2 S B2 w0 w i us gv) {k q : Nat} (hk : k < S.N) (hq : q < S.L k) :
    ∃ g, S.A k = some ⟨g, 0, none⟩ ∧ w.cell? ⟨g, q, none⟩ = some (.int .u8 (mk ((S.off k + q : Nat) : Int))) := by
  obtain ⟨cs, ho, hc⟩ := h.1.2.2 k hk
  obtain ⟨g, e, _, hcell, _⟩ := ho.cell hq
  rw [hc q hq (.inl hk)] at hcell
  exact ⟨g, e, hcell⟩

theorem Ph2.grown {S : Lists} {B2 : Nat} {w0 w : World} {i c : Nat} {us : List (Option Addr × Nat × Nat)} {a : Option Addr} (h : Ph2 S B2 w0 w i us (.slice a i c)) {k : Nat} (hk : k < i) :
    ∃ gb ua uc, a = some ⟨gb, 0, none⟩ ∧ w.cell? ⟨gb, k, none⟩ = some (.slice ua (S.L k + 6) uc) ∧ ∀ q, q < 6 → ∃ g, ua = some ⟨g, 0, none⟩ ∧ w.cell? ⟨g, S.L k + q, none⟩ = some (.int .u8 (ext S k q)) := by
  have hul := h.2.1
  obtain ⟨t, ht⟩ : ∃ t, us[k]? = some t := ⟨us[k], List.getElem?_eq_getElem (by omega)⟩
  obtain ⟨h1, cs, ho, hc⟩ := h.2.2.2.1 k t ht
  rcases h.2.2.1.2 with ⟨e, e0⟩ | ⟨g, cap, cur, e, _, hh, _, _, _, htk⟩
  · omega
  · cases e
    refine ⟨g, t.1, t.2.2, rfl, ?_, fun q hq => ?_⟩
    · have hx : (cur.toList.take (i * 1))[k]? = some (sval t) := by rw [htk, List.getElem?_map, ht]; rfl
      rw [List.getElem?_take_of_lt (by omega)] at hx
      simp only [World.cell?, hh]
      rw [← h1]
      simpa [sval] using hx
    · obtain ⟨g', e', _, hcell, _⟩ := ho.cell (j := S.L k + q) (by omega)
      rw [hc q hq] at hcell
      exact ⟨g', e', hcell⟩

set_option maxRecDepth 100000 in
set_option maxHeartbeats 4000000 in
theorem apart_any (N Lb : Nat) (S : Lists) (hS : S.Good) (w : World) (hN : S.N = N) (hLb : S.Lb = Lb) (h0 : Ph1 S w w 0 0) (hB : S.B ≤ w.heap.size) :
    Calls Tryz.prog 40 #[.slice (some ⟨Lb, 0, none⟩) N N] w fun e w' => e = .returned (.bool true) ∧ BI S.B (T S) w w' := by
  have HS := hide hS
  have H0 := hide h0
  have hNb : N ≤ 64 := by rw [← hN]; exact hS.few
  have HN := hide hN
  have HL := hide hLb
  have HO0 := hide hS.off0
  clear hS h0 hN hLb
  go_enter Tryz.func40, Tryz.ntmps40
  go_wp2
  go_loopw [3, 4] (fun n i wr => ∃ p o : Nat, p ≤ N ∧ i = .int .i64 p ∧ n = .int .i64 o ∧ Hid (o = S.off p) ∧ Hid (Ph1 S w wr p 0)) (fun _ i _ => N - (intOf i).toNat)
  case atStart => exact ⟨0, 0, Nat.zero_le _, rfl, rfl, (unhide HO0).symm, H0⟩
  case round =>
    obtain ⟨p, o, hp, rfl, rfl, ho, hPh⟩ := hrel
    by_cases hlt : p < N
    · have hSg := unhide HS
      obtain ⟨A, hA⟩ : ∃ A, S.A p = A := ⟨_, rfl⟩
      obtain ⟨L, hL⟩ : ∃ L, S.L p = L := ⟨_, rfl⟩
      obtain ⟨C, hC⟩ : ∃ C, S.C p = C := ⟨_, rfl⟩
      have hob := hSg.off_bd p (by rw [unhide HN]; omega)
      rw [← ho.out] at hob
      have hLb : L ≤ 140737488351232 := by rw [← hL]; exact hSg.fit p (by rw [unhide HN]; exact hlt)
      have HA := hide hA
      have HLL := hide hL
      have HC := hide hC
      clear hA hL hC hSg
      go_wp2
      go_loopw [3, 5] (fun n j wr => ∃ q : Nat, q ≤ L ∧ j = .int .i64 q ∧ n = .int .i64 ((o + q : Nat) : Int) ∧ Hid (Ph1 S w wr p q)) (fun _ j _ => L - (intOf j).toNat)
      case atStart => exact ⟨0, Nat.zero_le _, rfl, rfl, hPh⟩
      case round =>
        obtain ⟨q, hq, rfl, rfl, hPh2⟩ := hrel
        have hls : wr.cell? ⟨Lb, p, none⟩ = some (.slice A L C) := by
          have := (unhide hPh2).ls (unhide HS) (p := p) (by rw [unhide HN]; exact hlt)
          rwa [unhide HL, unhide HA, unhide HLL, unhide HC] at this
        by_cases hlt2 : q < L
        · obtain ⟨g, v, eA, hcell, hfr, hPh3⟩ := (unhide hPh2).store (unhide HS) (by rw [unhide HN]; exact hlt) (by rw [unhide HLL]; exact hlt2)
          rw [unhide HA] at eA
          subst eA
          rw [← ho.out] at hPh3
          have HPh3 := hide hPh3
          clear hPh3
          have hltI : (q : Int) < (L : Int) := by omega
          go_wp2
          go_region_with (go_at_call 104; refine (mark_any _ _ (by omega) (by omega)).mono ?_; rintro e w' ⟨rfl, rfl⟩)
          all_goals go_wp2
          all_goals exact ⟨⟨q + 1, by omega, by go_num, by go_num, (by have h := unhide HPh3; rw [Int.natCast_add] at h; exact h.drew)⟩, by simp [intOf]; omega⟩
        · obtain rfl : q = L := by omega
          go_wp2
          exact ⟨⟨p + 1, o + q, by omega, by go_num, rfl, by show o + q = S.off (p + 1); rw [(unhide HS).offS p (by rw [unhide HN]; exact hlt), unhide HLL, ho.out], by have h := unhide hPh2; rw [← unhide HLL] at h; exact h.next⟩, by simp [intOf]; omega⟩
    · obtain rfl : p = N := by omega
      have hPhN := unhide hPh
      rw [← unhide HN] at hPhN
      have HPN := hide hPhN
      obtain ⟨B2, hB2⟩ : ∃ B2, wr.heap.size = B2 := ⟨_, rfl⟩
      have HB2 := hide hB2
      have H02 : Hid (w.heap.size ≤ B2) := by rw [← hB2]; exact hPhN.2.1.1.size
      have HLt : Hid (S.Lb < B2 ∧ S.B ≤ B2) := by
        refine ⟨?_, ?_⟩
        · rw [← hB2]; exact (Array.getElem?_eq_some_iff.1 hPhN.1).1
        · rw [← hB2]; exact Nat.le_trans hB hPhN.2.1.1.size
      have hob := (unhide HS).off_bd p (by rw [unhide HN]; omega)
      rw [← ho.out] at hob
      obtain ⟨i22, hi, hz0, hz1, hz2⟩ := info_parts info22
      have HI := hide (⟨hi, hz0, hz1, hz2⟩ : Tryz.prog.info? 49 = some i22 ∧ i22.zero = some (.slice none 0 0) ∧ i22.size = 1 ∧ i22.bytes = 24)
      have HST : Hid (Ph2 S B2 w wr 0 [] (.slice none 0 0)) := Ph2.start hPhN
      clear hi hz0 hz1 hz2 hB2 hPh hPhN HPN H0 hlt
      go_wp2
      go_loopw [6, 7, 8] (fun gr kk i wr => ∃ (m : Nat) (us : List (Option Addr × Nat × Nat)), m ≤ p ∧ i = .int .i64 m ∧ kk = .int .i64 ((o + 6 * m : Nat) : Int) ∧ Hid (Ph2 S B2 w wr m us gr) ∧ Hid (B2 ≤ wr.heap.size)) (fun _ _ i _ => p - (intOf i).toNat)
      case atStart => exact ⟨0, [], Nat.zero_le _, rfl, rfl, HST, Nat.le_of_eq (unhide HB2).symm⟩
      case round =>
        obtain ⟨m, us, hm, rfl, rfl, hPh2, hsz⟩ := hrel
        clear HB2 HST
        by_cases hlt : m < p
        · obtain ⟨A, hA⟩ : ∃ A, S.A m = A := ⟨_, rfl⟩
          obtain ⟨L, hL⟩ : ∃ L, S.L m = L := ⟨_, rfl⟩
          obtain ⟨C, hC⟩ : ∃ C, S.C m = C := ⟨_, rfl⟩
          have hls : wr.cell? ⟨Lb, m, none⟩ = some (.slice A L C) := by
            have := (unhide hPh2).1.ls (unhide HS) (p := m) (by rw [unhide HN]; exact hlt)
            rwa [unhide HL, hA, hL, hC] at this
          have hLb : L ≤ 140737488351232 := by rw [← hL]; exact (unhide HS).fit m (by rw [unhide HN]; exact hlt)
          have HLL := hide hL
          have HI0 : Hid (Ph2i S B2 w wr m us u6 A C 0) := by
            have := Ph2i.start (unhide HS) (unhide hPh2) (by rw [unhide HN]; exact hlt)
            rwa [hA, hC] at this
          clear hA hL hC
          go_wp2
          go_loopw [7, 9, 10] (fun kk g j wr => ∃ (q : Nat) (ga : Option Addr) (gc : Nat), q ≤ 6 ∧ j = .int .i64 q ∧ kk = .int .i64 ((o + 6 * m + q : Nat) : Int) ∧ g = .slice ga (L + q) gc ∧ Hid (Ph2i S B2 w wr m us u6 ga gc q) ∧ Hid (B2 ≤ wr.heap.size)) (fun _ _ j _ => 6 - (intOf j).toNat)
          case atStart => exact ⟨0, A, C, by omega, rfl, rfl, rfl, HI0, hsz⟩
          case round =>
            obtain ⟨q, ga, gc, hq, rfl, rfl, rfl, hPi, hsz2⟩ := hrel
            by_cases hlt2 : q < 6
            · obtain ⟨z, hz⟩ : ∃ z, ext S m q = z := ⟨_, rfl⟩
              have hzz : mk ((o : Int) + 6 * (m : Int) + (q : Int)) = z := by
                rw [← hz]
                unfold ext
                rw [unhide HN, ← ho.out]
                congr 1 <;> omega
              obtain ⟨a', c', w', hrun, hPi', hsz3⟩ := (unhide hPi).step (unhide HS) (by rw [unhide HN]; exact hlt) hlt2 (Nat.le_trans (unhide HLt).2 hsz2.out)
              rw [hz, unhide HLL] at hrun
              have HR := hide hrun
              have HP' := hide hPi'
              have HZ3 : Hid (B2 ≤ w'.heap.size) := Nat.le_trans hsz2.out hsz3
              clear hrun hPi' hz hsz3
              go_wp2_with (first
                | (go_at_call 104; refine (mark_any _ _ (by omega) (by omega)).mono ?_; rintro e w6 ⟨rfl, rfl⟩; rw [hzz])
                | (at_builtin; refine wpList_append_run 49 rfl _ _ rfl _ _ _ rfl rfl (unhide HR) ?_))
              exact ⟨⟨q + 1, a', c', by omega, by go_num, by go_num, rfl, HP', HZ3⟩, by simp [intOf]; omega⟩
            · obtain rfl : q = 6 := by omega
              have hrw := (unhide hPi).1.2.2.1
              have HRW : Hid ((wr.alloc (.cells #[.slice ga (L + 6) gc] 49)).ownsRow B2 49 1 u6 m (us.map sval)) := hrw.alloc _
              have HNW : Hid (∀ (j : Nat) (u : Value), [Value.slice ga (L + 6) gc][j]? = some u → (wr.alloc (.cells #[.slice ga (L + 6) gc] 49)).cell? ((⟨wr.heap.size, 0, none⟩ : Addr).add j) = some u) := by
                intro j u hj
                cases j with
                | zero => simp at hj; subst hj; rw [World.add_zero_spot]; exact (Boxed.new wr 49 _).cell
                | succ j => simp at hj
              have HM : Hid (m + 1 ≤ maxLen ∧ (m + 1) * 24 ≤ 140737488355328) := ⟨by unfold maxLen; omega, by omega⟩
              have HBs : Hid (B2 ≤ (wr.alloc (.cells #[.slice ga (L + 6) gc] 49)).heap.size) := Nat.le_trans hsz2.out (by simp)
              have HOC : Hid (∀ u ∈ [Value.slice ga (L + 6) gc], u.oneCell' = true) := by intro u hu; simp at hu; subst hu; rfl
              clear hrw
              go_wp2_with (at_builtin; refine wpList_append_own _ rfl _ _ 69 rfl B2 49 i22 (.slice none 0 0) 1 24 Tryz.underlying69 (unhide HI).1 (unhide HI).2.1 (unhide HI).2.2.1 (unhide HI).2.2.2 rfl (by decide) u6 m (us.map sval) rfl (unhide HRW) ⟨wr.heap.size, 0, none⟩ 1 1 [.slice ga (L + 6) gc] rfl rfl (unhide HNW) (unhide HOC) (unhide HM).1 (unhide HM).2 (unhide HBs) ?_; intro gv' w5 hrow hgrow _)
              refine ⟨⟨m + 1, us ++ [(ga, S.L m + 6, gc)], by omega, by go_num, by go_num, ?_, Nat.le_trans (unhide HBs) hgrow.size⟩, by simp [intOf]; omega⟩
              rw [← unhide HLL] at hrow
              exact (unhide hPi).done (unhide HS) (by rw [unhide HN]; exact hlt) (Nat.le_trans (unhide HLt).2 hsz2.out) (unhide HLt).1 (unhide HLt).2 (unhide H02) _ hrow hgrow
        · obtain rfl : m = p := by omega
          obtain ⟨gva, gvc, rfl⟩ := (unhide hPh2).shape
          clear HLt HI hsz hlt
          go_wp2
          go_loopw [3, 11] (fun n i wr => ∃ k oo : Nat, k ≤ m ∧ i = .int .i64 k ∧ n = .int .i64 oo ∧ Hid (oo = S.off k) ∧ Hid (Ph2 S B2 w wr m us (.slice gva m gvc))) (fun _ i _ => m - (intOf i).toNat)
          case atStart => exact ⟨0, 0, Nat.zero_le _, rfl, rfl, (unhide HO0).symm, hPh2⟩
          case round =>
            obtain ⟨k, oo, hk, rfl, rfl, hoo, hP3⟩ := hrel
            clear hPh2
            by_cases hlt : k < m
            · obtain ⟨A, hA⟩ : ∃ A, S.A k = A := ⟨_, rfl⟩
              obtain ⟨L, hL⟩ : ∃ L, S.L k = L := ⟨_, rfl⟩
              obtain ⟨C, hC⟩ : ∃ C, S.C k = C := ⟨_, rfl⟩
              have hLb : L ≤ 140737488351232 := by rw [← hL]; exact (unhide HS).fit k (by rw [unhide HN]; exact hlt)
              have hob2 := (unhide HS).off_bd k (by rw [unhide HN]; omega)
              rw [← hoo.out] at hob2
              have HA := hide hA
              have HLL := hide hL
              have HC := hide hC
              clear hA hL hC
              go_wp2
              go_loopw [3, 12] (fun n j wr => ∃ q : Nat, q ≤ L ∧ j = .int .i64 q ∧ n = .int .i64 ((oo + q : Nat) : Int) ∧ Hid (Ph2 S B2 w wr m us (.slice gva m gvc))) (fun _ j _ => L - (intOf j).toNat)
              case atStart => exact ⟨0, Nat.zero_le _, rfl, rfl, hP3⟩
              case round =>
                obtain ⟨q, hq, rfl, rfl, hP4⟩ := hrel
                clear hP3
                have hls : wr.cell? ⟨Lb, k, none⟩ = some (.slice A L C) := by
                  have := (unhide hP4).1.ls (unhide HS) (p := k) (by rw [unhide HN]; exact hlt)
                  rwa [unhide HL, unhide HA, unhide HLL, unhide HC] at this
                by_cases hlt2 : q < L
                · obtain ⟨g, eA, hcell⟩ := (unhide hP4).byte (k := k) (q := q) (by rw [unhide HN]; exact hlt) (by rw [unhide HLL]; exact hlt2)
                  rw [unhide HA] at eA
                  subst eA
                  rw [← hoo.out, Int.natCast_add] at hcell
                  have hltI : (q : Int) < (L : Int) := by omega
                  have hltK : (k : Int) < (m : Int) := by omega
                  go_wp2
                  go_quiet ((go_at_call 104; exact Calls.quiet_of_same (mark_same _ _ (by omega) (by omega))))
                  go_wp2
                  exact ⟨⟨q + 1, by omega, by go_num, by go_num, (unhide hP4).drewN _⟩, by simp [intOf]; omega⟩
                · obtain rfl : q = L := by omega
                  go_wp2
                  exact ⟨⟨k + 1, oo + q, by omega, by go_num, rfl, by show oo + q = S.off (k + 1); rw [(unhide HS).offS k (by rw [unhide HN]; exact hlt), unhide HLL, hoo.out], hP4⟩, by simp [intOf]; omega⟩
            · obtain rfl : k = m := by omega
              have hoe : oo = o := by rw [hoo.out, ho.out]
              subst hoe
              clear hoo hlt
              go_wp2
              go_loopw [3, 13] (fun n i wr => ∃ m : Nat, m ≤ k ∧ i = .int .i64 m ∧ n = .int .i64 ((oo + 6 * m : Nat) : Int) ∧ Hid (Ph2 S B2 w wr k us (.slice gva k gvc))) (fun _ i _ => k - (intOf i).toNat)
              case atStart => exact ⟨0, Nat.zero_le _, rfl, rfl, hP3⟩
              case round =>
                obtain ⟨m, hm4, rfl, rfl, hP5⟩ := hrel
                clear hP3
                by_cases hlt : m < k
                · obtain ⟨A, hA⟩ : ∃ A, S.A m = A := ⟨_, rfl⟩
                  obtain ⟨L, hL⟩ : ∃ L, S.L m = L := ⟨_, rfl⟩
                  obtain ⟨C, hC⟩ : ∃ C, S.C m = C := ⟨_, rfl⟩
                  have hLb : L ≤ 140737488351232 := by rw [← hL]; exact (unhide HS).fit m (by rw [unhide HN]; exact hlt)
                  have hls : wr.cell? ⟨Lb, m, none⟩ = some (.slice A L C) := by
                    have := (unhide hP5).1.ls (unhide HS) (p := m) (by rw [unhide HN]; exact hlt)
                    rwa [unhide HL, hA, hL, hC] at this
                  have HLL := hide hL
                  clear hA hL hC
                  go_wp2
                  go_loopw [3, 14] (fun n j wr => ∃ q : Nat, q ≤ 6 ∧ j = .int .i64 ((L + q : Nat) : Int) ∧ n = .int .i64 ((oo + 6 * m + q : Nat) : Int) ∧ Hid (Ph2 S B2 w wr k us (.slice gva k gvc))) (fun _ j _ => L + 6 - (intOf j).toNat)
                  case atStart => exact ⟨0, by omega, rfl, rfl, hP5⟩
                  case round =>
                    obtain ⟨q, hq, rfl, rfl, hP6⟩ := hrel
                    clear hP5 hls
                    obtain ⟨gb, ua, uc, e, hgc, hgx⟩ := (unhide hP6).grown hlt
                    subst e
                    rw [unhide HLL] at hgc
                    have HGX := hide hgx
                    clear hgx
                    have hltK : (m : Int) < (k : Int) := by omega
                    by_cases hlt2 : q < 6
                    · obtain ⟨g, e2, hcell⟩ := unhide HGX q hlt2
                      subst e2
                      have hext : ext S m q = mk ((oo : Int) + 6 * (m : Int) + (q : Int)) := by
                        unfold ext
                        rw [unhide HN, ← ho.out]
                        congr 1 <;> omega
                      rw [unhide HLL, hext] at hcell
                      clear hext HGX
                      have hltI : ((L + q : Nat) : Int) < ((L + 6 : Nat) : Int) := by omega
                      go_wp2
                      go_quiet ((go_at_call 104; exact Calls.quiet_of_same (mark_same _ _ (by omega) (by omega))))
                      go_wp2
                      exact ⟨⟨q + 1, by omega, by go_num, by go_num, (unhide hP6).drewN _⟩, by simp [intOf]; omega⟩
                    · obtain rfl : q = 6 := by omega
                      clear HGX
                      go_wp2
                      exact ⟨⟨m + 1, by omega, by go_num, by go_num, hP6⟩, by simp [intOf]; omega⟩
                · obtain rfl : m = k := by omega
                  go_wp2
                  go_ret
                  exact ⟨rfl, (unhide hP5).1.2.1⟩

theorem listsOf_ph1 {B Lb : Nat} {ts : List Trip} {w : World} (hL : w.heap[Lb]? = some (.cells (ts.map sval).toArray 49 (0, 0))) (ho : ∀ t ∈ ts, ∃ xs, Own B w t.1 t.2.1 t.2.2 xs) : Ph1 (listsOf B Lb ts) w w 0 0 := by
  refine ⟨hL, BI.refl _ _ _, fun p hp => ?_⟩
  have hp' : p < ts.length := hp
  obtain ⟨xs, hx⟩ := ho _ (List.getElem_mem hp')
  refine ⟨xs, ?_, fun q _ h => by omega⟩
  show Own B w (tripAt ts p).1 (tripAt ts p).2.1 (tripAt ts p).2.2 xs
  rw [tripAt_eq hp']
  exact hx

theorem apart_list (B Lb N : Nat) (ts : List Trip) (w : World) (hN : ts.length = N) (h1 : N ≤ 64) (h2 : ∀ t ∈ ts, t.2.1 ≤ 140737488351232) (h3 : B ≤ Lb) (h4 : ts.Pairwise Aside) (hL : w.heap[Lb]? = some (.cells (ts.map sval).toArray 49 (0, 0)))
    (ho : ∀ t ∈ ts, ∃ xs, Own B w t.1 t.2.1 t.2.2 xs) :
    Calls Tryz.prog 40 #[.slice (some ⟨Lb, 0, none⟩) N N] w fun e w' => e = .returned (.bool true) ∧ BI B (T (listsOf B Lb ts)) w w' :=
  apart_any N Lb (listsOf B Lb ts) (listsOf_good (by omega) h2 h3 h4) w hN rfl (listsOf_ph1 hL ho) (by
    have := (Array.getElem?_eq_some_iff.1 hL).1
    show B ≤ _
    omega)

end Go.Proofs.YtdkicniciciobaaGreatDoor.FA

/- An append of bytes to a row of the call's own, from whatever source. -/
namespace Go.Proofs.YtdkicniciciobaaGreatDoor
open Go.RowKit Go.Shelf
set_option linter.unusedVariables false

theorem Own.owns {B : Nat} {w : World} {a : Option Addr} {n c : Nat} {xs : List Int} (h : Own B w a n c xs) : w.ownsRow B 5 1 (.slice a n c) n (xs.map (Value.int .u8)) := by
  obtain ⟨h1, h2, h3, h4⟩ := h
  refine ⟨by simp [h1], ?_⟩
  rcases h4 with ⟨rfl, rfl, rfl⟩ | ⟨g, cur, rfl, hg, hh, hc, ht⟩
  · exact .inl ⟨rfl, rfl⟩
  · exact .inr ⟨g, c, cur, rfl, hg, hh, h2, h3, by simpa using hc, by simpa using ht⟩

theorem Own.of_owns {B : Nat} {w : World} {v : Value} {n : Nat} {xs : List Int} (h : w.ownsRow B 5 1 v n (xs.map (Value.int .u8))) : ∃ a c, v = .slice a n c ∧ Own B w a n c xs := by
  obtain ⟨h1, h2⟩ := h
  have hl : xs.length = n := by simpa using h1
  rcases h2 with ⟨rfl, rfl⟩ | ⟨g, cap, cur, rfl, hg, hh, h2, h3, hc, ht⟩
  · exact ⟨none, 0, rfl, hl, Nat.le_refl _, by unfold maxLen; omega, .inl ⟨rfl, rfl, rfl⟩⟩
  · exact ⟨_, cap, rfl, hl, h2, h3, .inr ⟨g, cur, rfl, hg, hh, by simpa using hc, by simpa using ht⟩⟩

theorem Own.has {B : Nat} {w : World} {a : Option Addr} {n c : Nat} {xs : List Int} (h : Own B w a n c xs) : Has w a n xs := by
  refine ⟨h.1, fun hp => ?_⟩
  obtain ⟨g, e, _, _, _⟩ := h.cell (j := 0) hp
  refine ⟨g, 0, e, fun j hj => ?_⟩
  obtain ⟨g', e', _, hc, _⟩ := h.cell hj
  rw [e] at e'
  cases e'
  rw [Nat.zero_add]
  exact hc

theorem run_append_nothing (w : World) (ty : TypeId) (a a2 : Option Addr) (n c c2 : Nat) (hn : n ≤ c) (ha : a = none → n = 0 ∧ c = 0) : (Builtin.append_ #[49, 49] ty #[.slice a n c, .slice a2 0 c2]).run Tryz.prog w = .ok (.slice a n c) w := by
  obtain ⟨i0, hi, hz0, hz1, hz2⟩ := info_parts info5
  cases a with
  | none =>
    obtain ⟨rfl, rfl⟩ := ha rfl
    cases a2 <;> simp [Builtin.append_, run_underlying Tryz.underlying49, sizeOf, typeInfo, hi, Builtin.lenOf, Builtin.firstCells, loadCells, loadCellsFrom]
  | some x => cases a2 <;> simp [Builtin.append_, run_underlying Tryz.underlying49, sizeOf, typeInfo, hi, Builtin.lenOf, Builtin.firstCells, storeCells, loadCells, loadCellsFrom, hn]

theorem run_append_bytes {B : Nat} {w : World} {a : Option Addr} {n c : Nat} {xs : List Int} (h : Own B w a n c xs) (hB : B ≤ w.heap.size) {a2 : Option Addr} {m : Nat} {ys : List Int} (c2 : Nat) (h2 : Has w a2 m ys) (hn : n + m ≤ 140737488355328) :
    ∃ a' c' w', (∀ ty, (Builtin.append_ #[49, 49] ty #[.slice a n c, .slice a2 m c2]).run Tryz.prog w = .ok (.slice a' (n + m) c') w') ∧ Own B w' a' (n + m) c' (xs ++ ys) ∧
      (∀ k, k < w.heap.size → (∀ g, a = some ⟨g, 0, none⟩ → k ≠ g) → w'.heap[k]? = w.heap[k]?) ∧ Below B w w' := by
  obtain ⟨i0, hi, hz0, hz1, hz2⟩ := info_parts info5
  by_cases h0 : m = 0
  · subst h0
    obtain rfl : ys = [] := List.eq_nil_of_length_eq_zero h2.1
    refine ⟨a, c, w, fun ty => run_append_nothing w ty a a2 n c c2 h.2.1 (fun e => ?_), by rw [List.append_nil]; exact h, fun _ _ _ => rfl, Below.refl _ _⟩
    rcases h.2.2.2 with ⟨_, e1, e2⟩ | ⟨g, _, e', _⟩
    · exact ⟨e1, e2⟩
    · rw [e] at e'; cases e'
  · obtain ⟨b, off, rfl, hc⟩ := h2.2 (by omega)
    have hl := h2.1
    have hnews : ∀ (j : Nat) (u : Value), (ys.map (Value.int .u8))[j]? = some u → w.cell? ((⟨b, off, none⟩ : Addr).add j) = some u := by
      intro j u hj
      have hjl : j < m := by have := (List.getElem?_eq_some_iff.1 hj).1; simp at this; omega
      rw [World.add_zero_spot, hc j hjl]
      rw [List.getElem?_map, List.getElem?_eq_getElem (by omega)] at hj
      rw [List.getElem?_eq_getElem (by omega)]
      simpa using hj
    have hmax : n + m ≤ maxLen := by unfold maxLen; omega
    obtain ⟨v', w', hr, ho, hg, _⟩ := run_append_own (P := Tryz.prog) w B 49 0 5 i0 (.int .u8 0) 1 1 Tryz.underlying49 hi hz0 hz1 hz2 rfl (by decide) (.slice a n c) n _ h.owns ⟨b, off, none⟩ m c2 (ys.map (Value.int .u8)) (by simp [hl]) hnews (oneCell_bytes ys) hmax (by omega) hB
    rw [← List.map_append] at ho
    obtain ⟨a', c', rfl, ho'⟩ := Own.of_owns ho
    refine ⟨a', c', w', fun ty => hr, ho', fun k hk hne => ?_, ?_⟩
    · refine hg.block k hk (fun e => ?_)
      rcases h.2.2.2 with ⟨ha, _, _⟩ | ⟨g, _, ha, _⟩
      · rw [ha] at e; simp [Value.ownBlock] at e
      · rw [ha] at e
        simp [Value.ownBlock] at e
        exact hne g ha e
    · refine (Below.refl B w).grown hg hB (fun k e => ?_)
      rcases h.2.2.2 with ⟨ha, _, _⟩ | ⟨g, _, ha, hgB, _⟩
      · rw [ha] at e; simp [Value.ownBlock] at e
      · rw [ha] at e
        simp [Value.ownBlock] at e
        omega

end Go.Proofs.YtdkicniciciobaaGreatDoor

/- Contracts of field.checkPart and field.checkNumber. -/
namespace Go.Proofs.YtdkicniciciobaaGreatDoor
open Go.RowKit Go.Shelf
set_option linter.unusedVariables false

def partErr (len : Nat) (at' n : Int) : Int := if n < 0 then 1 else if at' < 0 then 2 else if (len : Int) - at' < n then 2 else 0

def numErr (len : Nat) (at' n : Int) : Int := if n = 1 then partErr len at' n else if n = 2 then partErr len at' n else if n = 4 then partErr len at' n else 1

theorem partErr_arg {len : Nat} {at' n : Int} (h : n < 0) : partErr len at' n = 1 := by unfold partErr; rw [if_pos h]

theorem partErr_neg {len : Nat} {at' n : Int} (h : 0 ≤ n) (h2 : at' < 0) : partErr len at' n = 2 := by unfold partErr; rw [if_neg (by omega), if_pos h2]

theorem partErr_far {len : Nat} {at' n : Int} (h : 0 ≤ n) (h2 : 0 ≤ at') (h3 : (len : Int) - at' < n) : partErr len at' n = 2 := by unfold partErr; rw [if_neg (by omega), if_neg (by omega), if_pos h3]

theorem partErr_ok {len : Nat} {at' n : Int} (h : 0 ≤ n) (h2 : 0 ≤ at') (h3 : n ≤ (len : Int) - at') : partErr len at' n = 0 := by unfold partErr; rw [if_neg (by omega), if_neg (by omega), if_neg (by omega)]

set_option maxHeartbeats 400000 in
theorem checkPart_any (a : Option Addr) (len cap : Nat) (at' n : Int) (w : World) (hl : len ≤ maxLen) (ha : at' ≤ 9223372036854775807) (hn : -9223372036854775808 ≤ n) :
    Calls Tryz.prog 253 #[.slice a len cap, .int .i64 at', .int .i64 n] w fun e w' => e = .returned (.int .i64 (partErr len at' n)) ∧ w = w' := by
  unfold maxLen at hl
  by_cases h1 : n < 0
  · rw [partErr_arg h1]
    go_enter Tryz.func253, Tryz.ntmps253
    go_wp2
    go_ret
    exact ⟨rfl, rfl⟩
  by_cases h2 : at' < 0
  · rw [partErr_neg (by omega) h2]
    go_enter Tryz.func253, Tryz.ntmps253
    go_wp2
    go_ret
    exact ⟨rfl, rfl⟩
  by_cases h3 : (len : Int) - at' < n
  · rw [partErr_far (by omega) (by omega) h3]
    go_enter Tryz.func253, Tryz.ntmps253
    go_wp2
    go_ret
    exact ⟨rfl, rfl⟩
  · rw [partErr_ok (by omega) (by omega) (by omega)]
    go_enter Tryz.func253, Tryz.ntmps253
    go_wp2
    go_ret
    exact ⟨rfl, rfl⟩

set_option maxHeartbeats 400000 in
theorem checkNumber_any (a : Option Addr) (len cap : Nat) (at' n : Int) (w : World) (hl : len ≤ maxLen) (ha : at' ≤ 9223372036854775807) :
    Calls Tryz.prog 247 #[.slice a len cap, .int .i64 at', .int .i64 n] w fun e w' => e = .returned (.int .i64 (numErr len at' n)) ∧ w = w' := by
  unfold numErr
  by_cases h1 : n = 1
  · subst h1
    rw [if_pos rfl]
    go_enter Tryz.func247, Tryz.ntmps247
    go_wp2_with (go_at_call 253; refine (checkPart_any _ _ _ _ _ _ hl ha (by omega)).mono ?_; rintro e w' ⟨rfl, rfl⟩)
    go_ret
    exact ⟨rfl, rfl⟩
  by_cases h2 : n = 2
  · subst h2
    rw [if_neg (by omega), if_pos rfl]
    go_enter Tryz.func247, Tryz.ntmps247
    go_wp2_with (go_at_call 253; refine (checkPart_any _ _ _ _ _ _ hl ha (by omega)).mono ?_; rintro e w' ⟨rfl, rfl⟩)
    go_ret
    exact ⟨rfl, rfl⟩
  by_cases h4 : n = 4
  · subst h4
    rw [if_neg (by omega), if_neg (by omega), if_pos rfl]
    go_enter Tryz.func247, Tryz.ntmps247
    go_wp2_with (go_at_call 253; refine (checkPart_any _ _ _ _ _ _ hl ha (by omega)).mono ?_; rintro e w' ⟨rfl, rfl⟩)
    go_ret
    exact ⟨rfl, rfl⟩
  · rw [if_neg h1, if_neg h2, if_neg h4]
    have e1 : (n == 1) = false := by simpa using h1
    have e2 : (n == 2) = false := by simpa using h2
    have e4 : (n == 4) = false := by simpa using h4
    go_enter Tryz.func247, Tryz.ntmps247
    go_wp2_with fail
    go_ret
    exact ⟨rfl, rfl⟩

theorem numErr_cases (len : Nat) (at' n : Int) : numErr len at' n = 1 ∨ numErr len at' n = 2 ∨ (numErr len at' n = 0 ∧ ∃ at0 wd : Nat, at' = at0 ∧ n = wd ∧ (wd = 1 ∨ wd = 2 ∨ wd = 4) ∧ at0 + wd ≤ len) := by
  have hp : ∀ n : Int, n = 1 ∨ n = 2 ∨ n = 4 → partErr len at' n = 2 ∨ (partErr len at' n = 0 ∧ ∃ at0 wd : Nat, at' = at0 ∧ n = wd ∧ (wd = 1 ∨ wd = 2 ∨ wd = 4) ∧ at0 + wd ≤ len) := by
    intro n hn
    by_cases h2 : at' < 0
    · exact .inl (partErr_neg (by omega) h2)
    by_cases h3 : (len : Int) - at' < n
    · exact .inl (partErr_far (by omega) (by omega) h3)
    · exact .inr ⟨partErr_ok (by omega) (by omega) (by omega), at'.toNat, n.toNat, by omega, by omega, by omega, by omega⟩
  unfold numErr
  by_cases h1 : n = 1
  · rw [if_pos h1]; exact .inr (hp n (.inl h1))
  rw [if_neg h1]
  by_cases h2 : n = 2
  · rw [if_pos h2]; exact .inr (hp n (.inr (.inl h2)))
  rw [if_neg h2]
  by_cases h4 : n = 4
  · rw [if_pos h4]; exact .inr (hp n (.inr (.inr h4)))
  rw [if_neg h4]; exact .inl rfl

theorem numErr_ok {len at0 wd : Nat} (hw : wd = 1 ∨ wd = 2 ∨ wd = 4) (hat : at0 + wd ≤ len) : numErr len (at0 : Int) (wd : Int) = 0 := by
  unfold numErr
  rcases hw with rfl | rfl | rfl
  · rw [if_pos (by omega)]; exact partErr_ok (by omega) (by omega) (by omega)
  · rw [if_neg (by omega), if_pos (by omega)]; exact partErr_ok (by omega) (by omega) (by omega)
  · rw [if_neg (by omega), if_neg (by omega), if_pos (by omega)]; exact partErr_ok (by omega) (by omega) (by omega)

end Go.Proofs.YtdkicniciciobaaGreatDoor

/- Slices of numbers. -/
namespace Go.Proofs.YtdkicniciciobaaGreatDoor
open Go.RowKit Go.Shelf
set_option linter.unusedVariables false

def IHas (w : World) (a : Option Addr) (len : Nat) (ns : List Int) : Prop :=
  ns.length = len ∧ (0 < len → ∃ b off, a = some ⟨b, off, none⟩ ∧ ∀ j, j < len → w.cell? ⟨b, off + j, none⟩ = some (.int .i64 (ns[j]?.getD 0)))

theorem IHas.lt {w : World} {a : Option Addr} {len : Nat} {zs : List Int} (h : IHas w a len zs) {b off : Nat} (hp : 0 < len) (e : a = some ⟨b, off, none⟩) : b < w.heap.size := by
  obtain ⟨b', off', e', hc⟩ := h.2 hp
  rw [e] at e'
  cases e'
  exact cell_block_lt (hc 0 hp)

theorem IHas.later {w w' : World} {a : Option Addr} {len : Nat} {zs : List Int} (h : IHas w a len zs) (hb : Below w.heap.size w w') : IHas w' a len zs := by
  refine ⟨h.1, fun hp => ?_⟩
  obtain ⟨b, off, e, hc⟩ := h.2 hp
  exact ⟨b, off, e, fun j hj => (hb.cell (p := ⟨b, off + j, none⟩) (h.lt hp e)).trans (hc j hj)⟩

end Go.Proofs.YtdkicniciciobaaGreatDoor

/- Contract of codec.fit. -/
namespace Go.Proofs.YtdkicniciciobaaGreatDoor
open Go.RowKit Go.Shelf
set_option linter.unusedVariables false

def fitB (wd : Nat) (ns : List Int) : Bool := ns.all (fun v => decide (0 ≤ v ∧ v < 256 ^ wd))

theorem fitB_iff {wd : Nat} {ns : List Int} : fitB wd ns = true ↔ ∀ v ∈ ns, 0 ≤ v ∧ v < 256 ^ wd := by simp [fitB]

theorem fitB_bad {wd : Nat} {ns : List Int} {k : Nat} (hk : k < ns.length) (h : ns[k]?.getD 0 < 0 ∨ 256 ^ wd ≤ ns[k]?.getD 0) : fitB wd ns = false := by
  rw [List.getElem?_eq_getElem hk, Option.getD_some] at h
  cases hf : fitB wd ns with
  | false => rfl
  | true =>
    have := fitB_iff.1 hf _ (List.getElem_mem hk)
    omega

theorem fitB_good {wd : Nat} {ns : List Int} (h : ∀ j, j < ns.length → 0 ≤ ns[j]?.getD 0 ∧ ns[j]?.getD 0 < 256 ^ wd) : fitB wd ns = true := by
  refine fitB_iff.2 fun v hv => ?_
  obtain ⟨j, hj, rfl⟩ := List.getElem_of_mem hv
  have := h j hj
  rwa [List.getElem?_eq_getElem hj, Option.getD_some] at this

set_option maxHeartbeats 1000000 in
theorem fit_any (wd : Nat) (hw : wd = 2 ∨ wd = 4) (a : Option Addr) (len cap : Nat) (ns : List Int) (w : World) (h : IHas w a len ns) (hl : len ≤ 140737488351232) :
    Calls Tryz.prog 206 #[.int .i64 (wd : Int), .slice a len cap] w fun e w' => e = .returned (.bool (fitB wd ns)) ∧ w = w' := by
  have H := hide h
  have hlen := h.1
  clear h
  have hpos : (0 : Int) < 256 ^ wd := Int.pow_pos (by omega)
  have hp2 : (2 : Int) ^ (8 * wd) = 256 ^ wd := by rw [Int.pow_mul]; rfl
  go_enter Tryz.func206, Tryz.ntmps206
  go_wp2
  go_loop [9] (fun i => ∃ k : Nat, k ≤ len ∧ i = .int .i64 (k : Int) ∧ Hid (∀ j, j < k → 0 ≤ ns[j]?.getD 0 ∧ ns[j]?.getD 0 < 256 ^ wd)) (fun i => len - (intOf i).toNat)
  case atStart => exact ⟨0, Nat.zero_le _, rfl, fun j hj => by omega⟩
  case round =>
    obtain ⟨k, hk, rfl, hj⟩ := hrel
    by_cases hlt : k < len
    · obtain ⟨b, off, rfl, hc⟩ := H.out.2 (by omega)
      have hck := hc k hlt
      have HBad := hide (@fitB_bad wd ns k (by omega))
      have HJ : Hid (0 ≤ ns[k]?.getD 0 ∧ ns[k]?.getD 0 < 256 ^ wd → ∀ j, j < k + 1 → 0 ≤ ns[j]?.getD 0 ∧ ns[j]?.getD 0 < 256 ^ wd) := by
        intro h j hjk
        by_cases he : j = k
        · subst he; exact h
        · exact hj.out j (by omega)
      generalize ns[k]?.getD 0 = z at *
      clear hc
      by_cases h1 : z < 0
      · have HN : Hid (fitB wd ns = false) := HBad.out (.inl h1)
        have hd : decide (z < 0) = true := by simpa using h1
        clear HBad HJ
        go_wp2
        go_ret
        exact ⟨by rw [HN.out]; rfl, rfl⟩
      · have hd : decide (z < 0) = false := by simpa using h1
        by_cases h2 : 256 ^ wd ≤ z
        · have HN : Hid (fitB wd ns = false) := HBad.out (.inr h2)
          have hq : (z / 2 ^ (8 * wd) != 0) = true := by
            have : 1 ≤ z / 256 ^ wd := (Int.le_ediv_iff_mul_le hpos).2 (by omega)
            rw [hp2]; simp; omega
          clear HBad HJ hj h2 hpos hp2
          go_wp2
          go_ret
          exact ⟨by rw [HN.out]; rfl, rfl⟩
        · have HJ' : Hid (∀ j, j < k + 1 → 0 ≤ ns[j]?.getD 0 ∧ ns[j]?.getD 0 < 256 ^ wd) := HJ.out ⟨by omega, by omega⟩
          have hq : (z / 2 ^ (8 * wd) != 0) = false := by
            have : z / 256 ^ wd = 0 := Int.ediv_eq_zero_of_lt (by omega) (by omega)
            rw [hp2, this]; rfl
          clear HBad HJ hj h2 hpos hp2
          go_wp2
          exact ⟨⟨k + 1, by omega, by go_num, HJ'⟩, by simp [intOf]; omega⟩
    · obtain rfl : k = len := by omega
      have HN : Hid (fitB wd ns = true) := fitB_good (fun j hj' => hj.out j (by omega))
      go_wp2
      go_ret
      exact ⟨by rw [HN.out]; rfl, rfl⟩

end Go.Proofs.YtdkicniciciobaaGreatDoor

