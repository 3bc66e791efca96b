/- Words and laws on slices of bytes, of no function of the program. -/
import Derived.Test.YtknmgefpjdfenaaGreatRows
import Derived.WalkKit
import Derived.WalkSpells
import Derived.WalkLawsBesides
import Derived.RangeFuncBox
import Derived.Shelf.Abstract
import Derived.Laws.CopyOwn
import Derived.Deep.OwnRows
import Derived.Laws.BytesArg
import Derived.Laws.BitsAllLaws
import Derived.ArgAppend
import Derived.Deep.RegionWith
import Derived.Deep.QuietTactic
import Derived.BigQuiet
import Derived.Lib.BufferWrite
namespace Go.Proofs.YtknmgefpjdfenaaGreat
open Go.RowKit Go.Shelf
set_option linter.unusedVariables false

theorem hide {p : Prop} (h : p) : Hid p := h

theorem unhide {p : Prop} (h : Hid p) : p := h

theorem ret_int {k : IntKind} {a b : Int} (h : a = b) : Ending.returned (.int k a) = .returned (.int k b) := by rw [h]

theorem ret_two {k k' : IntKind} {a b c d : Int} (h : a = b) (h' : c = d) : Ending.returned (.tuple #[.int k a, .int k' c]) = .returned (.tuple #[.int k b, .int k' d]) := by rw [h, h']

theorem ret_put {sv : Value} {c d : Int} (h' : c = d) : Ending.returned (.tuple #[sv, .int .i64 c]) = .returned (.tuple #[sv, .int .i64 d]) := by rw [h']

theorem ret_bool {a b : Bool} (h : a = b) : Ending.returned (.bool a) = .returned (.bool b) := by rw [h]

theorem ret_str {s s' : ByteArray} {c d : Int} (h : s = s') (h' : c = d) : Ending.returned (.tuple #[.string s, .int .i64 c]) = .returned (.tuple #[.string s', .int .i64 d]) := by rw [h, h']

theorem ret_zero {s s' : Bool} {c d : Int} (h : s = s') (h' : c = d) : Ending.returned (.tuple #[.bool s, .int .i64 c]) = .returned (.tuple #[.bool s', .int .i64 d]) := by rw [h, h']

theorem val_int {k : IntKind} {a b : Int} (h : a = b) : Value.int k a = Value.int k b := by rw [h]

theorem info5 : (Tryz.prog.info? 5).map (fun i => (i.zero, i.size, i.bytes)) = some (some (.int .u8 0), 1, 1) := by kernel_rfl

theorem size5 : (Tryz.prog.info? 5).map (·.size) = some 1 := by kernel_rfl

theorem oneCell_bytes (zs : List Int) : ∀ v ∈ zs.map (Value.int .u8), v.oneCell' = true := by
  intro v hv
  simp only [List.mem_map] at hv
  obtain ⟨z, _, rfl⟩ := hv
  rfl

theorem splice_whole {α : Type} (L cs : List α) (h : cs.length = L.length) : splice L 0 cs = cs := by
  simp [splice, h]

theorem World.add_zero_spot (b off j : Nat) : (⟨b, off, none⟩ : Addr).add j = ⟨b, off + j, none⟩ := by unfold Addr.add; split <;> simp_all

theorem info22 : (Tryz.prog.info? 34).map (fun i => (i.zero, i.size, i.bytes)) = some (some (.slice none 0 0), 1, 24) := by kernel_rfl

/-- Bytes like zs, but that ds stand from at on. -/
def put (zs : List Int) (at' : Nat) (ds : List Int) : List Int := zs.take at' ++ ds ++ zs.drop (at' + ds.length)

theorem length_put (zs : List Int) (at' : Nat) (ds : List Int) (h : at' + ds.length ≤ zs.length) : (put zs at' ds).length = zs.length := by
  simp [put]; omega

theorem part_put (zs : List Int) (at' : Nat) (ds : List Int) (h : at' + ds.length ≤ zs.length) : ((put zs at' ds).drop at').take ds.length = ds := by
  have h1 : (zs.take at').length = at' := by simp; omega
  rw [put, List.append_assoc, List.drop_append_of_le_length (by omega), List.drop_of_length_le (by omega)]
  simp

theorem put_other (zs : List Int) (at' : Nat) (ds : List Int) (i : Nat) (h : at' + ds.length ≤ zs.length) (hi : i < at' ∨ at' + ds.length ≤ i) : (put zs at' ds)[i]? = zs[i]? := by
  have h1 : (zs.take at').length = at' := by simp; omega
  rw [put]
  rcases hi with hi | hi
  · rw [List.append_assoc, List.getElem?_append_left (by omega), List.getElem?_take_of_lt hi]
  · rw [List.getElem?_append_right (by simp; omega), List.getElem?_drop]
    congr 1
    simp; omega

theorem put_byte (zs : List Int) (at' : Nat) (ds : List Int) (h1 : ∀ z ∈ zs, 0 ≤ z ∧ z ≤ 255) (h2 : ∀ z ∈ ds, 0 ≤ z ∧ z ≤ 255) : ∀ z ∈ put zs at' ds, 0 ≤ z ∧ z ≤ 255 := by
  intro z hz
  simp only [put, List.mem_append] at hz
  rcases hz with (hz | hz) | hz
  · exact h1 z (List.mem_of_mem_take hz)
  · exact h2 z hz
  · exact h1 z (List.mem_of_mem_drop hz)

theorem put_put (zs ds es : List Int) (o : Nat) (h : o + ds.length + es.length ≤ zs.length) : put (put zs o ds) (o + ds.length) es = put zs o (ds ++ es) := by
  have h1 : (zs.take o ++ ds).length = o + ds.length := by simp; omega
  have e1 : (put zs o ds).take (o + ds.length) = zs.take o ++ ds := by
    rw [put, List.take_append_of_le_length (by omega), List.take_of_length_le (by omega)]
  have e2 : (put zs o ds).drop (o + ds.length + es.length) = zs.drop (o + (ds ++ es).length) := by
    rw [put, List.drop_append, List.drop_of_length_le (by omega), List.nil_append, h1, List.drop_drop]
    congr 1; simp; omega
  rw [put, e1, e2, put]
  simp

theorem put_take_succ (zs D : List Int) (at' k : Nat) (hk : k < D.length) (h : at' + D.length ≤ zs.length) : put zs at' (D.take (k + 1)) = (put zs at' (D.take k)).set (at' + k) (D[k]?.getD 0) := by
  have hl : (D.take k).length = k := by simp; omega
  have h1 : (zs.take at' ++ D.take k).length = at' + k := by rw [List.length_append, hl]; simp; omega
  have hd : zs.drop (at' + k) = zs[at' + k] :: zs.drop (at' + k + 1) := List.drop_eq_getElem_cons (by omega)
  have hl' : (D.take (k + 1)).length = k + 1 := by simp; omega
  rw [put, put, hl, hl', List.take_succ_eq_append_getElem hk, List.set_append_right _ _ (by omega), h1, Nat.sub_self, hd, List.set_cons_zero, List.getElem?_eq_getElem hk, Option.getD_some, Nat.add_assoc]
  simp only [List.append_assoc, List.singleton_append]

theorem put_over (zs D E : List Int) (at0 : Nat) (hl : D.length = E.length) (h : at0 + D.length ≤ zs.length) : put (put zs at0 D) at0 E = put zs at0 E := by
  have h1 : (zs.take at0).length = at0 := by simp; omega
  have e1 : (put zs at0 D).take at0 = zs.take at0 := by
    rw [put, List.append_assoc, List.take_append_of_le_length (by omega), List.take_of_length_le (by omega)]
  have e2 : (put zs at0 D).drop (at0 + E.length) = zs.drop (at0 + E.length) := by
    have h2 : (zs.take at0 ++ D).length = at0 + E.length := by rw [List.length_append, h1, hl]
    rw [put, List.drop_append, List.drop_of_length_le (by omega), List.nil_append, h2, Nat.sub_self, List.drop_zero, hl]
  rw [put, e1, e2, put]

/-- A slice of bytes in memory: zs are its elements; they lie below block n0. -/
def Row (n0 : Nat) (w : World) (a : Option Addr) (len cap : Nat) (zs : List Int) : Prop :=
  zs.length = len ∧ len ≤ cap ∧ (len ≤ 140737488351232 ∧ cap ≤ 9223372036854775807) ∧ (∀ z ∈ zs, 0 ≤ z ∧ z ≤ 255) ∧
  (0 < len → ∃ b off, a = some ⟨b, off, none⟩ ∧ b < n0 ∧ ∀ j, j < len → w.cell? ⟨b, off + j, none⟩ = some (.int .u8 (zs[j]?.getD 0)))

theorem Row.below {n0 : Nat} {w w' : World} {a : Option Addr} {len cap : Nat} {zs : List Int} (h : Row n0 w a len cap zs) (hb : Below n0 w w') {n1 : Nat} (hn : n0 ≤ n1) : Row n1 w' a len cap zs := by
  obtain ⟨h1, h2, h3, h4, h5⟩ := h
  refine ⟨h1, h2, h3, h4, fun hp => ?_⟩
  obtain ⟨b, off, e, hlt, hc⟩ := h5 hp
  exact ⟨b, off, e, by omega, fun j hj => (hb.cell (p := ⟨b, off + j, none⟩) hlt).trans (hc j hj)⟩

theorem Row.alloc {w : World} {a : Option Addr} {len cap : Nat} {zs : List Int} (h : Row w.heap.size w a len cap zs) (o : Obj) : Row (w.alloc o).heap.size (w.alloc o) a len cap zs :=
  h.below ((Below.refl _ w).alloc (Nat.le_refl _) o) (by simp)

/-- Block g is a row of just these bytes, and may be written. -/
def Block (w : World) (g : Nat) (zs : List Int) : Prop := w.heap[g]? = some (.cells (zs.map (Value.int .u8)).toArray 5 (0, 0))

theorem heap_kept {W W' : World} {row : Option Nat} {k : Nat} {c : Array Value} {t : TypeId} {fr : Nat × Nat} (hs : W.heap[k]? = some (.cells c t fr)) (hg : W.grownBy W' row) (hr : ∀ r, row = some r → ∃ o : Obj, W.heap[r]? = some o ∧ o.isCells = false) : W'.heap[k]? = some (.cells c t fr) := by
  have hlt : k < W.heap.size := (Array.getElem?_eq_some_iff.1 hs).1
  rw [hg.block k hlt (fun e => ?_)]
  · exact hs
  · obtain ⟨o, h1, h2⟩ := hr k e.symm
    rw [hs] at h1
    cases h1
    simp [Obj.isCells] at h2

theorem cell_box {W : World} {k : Nat} {v : Value} {t : TypeId} (h : W.heap[k]? = some (.cells #[v] t (0, 0))) : W.cell? ⟨k, 0, none⟩ = some v := by simp [World.cell?, h]

theorem Block.cell {W : World} {g : Nat} {zs : List Int} (h : Block W g zs) {i : Nat} (hi : i < zs.length) : W.cell? ⟨g, i, none⟩ = some (.int .u8 (zs[i]?.getD 0)) := by
  unfold Block at h
  simp [World.cell?, h, hi]

theorem Block.free {W : World} {g : Nat} {zs : List Int} (h : Block W g zs) (i : Nat) : W.frozen? ⟨g, i, none⟩ = false := by
  unfold Block at h
  simp [World.frozen?, h]

theorem Block.set {W : World} {g : Nat} {zs : List Int} (h : Block W g zs) (i : Nat) (z : Int) : Block (W.setCell ⟨g, i, none⟩ (.int .u8 z)) g (zs.set i z) := by
  unfold Block at *
  have hlt : g < W.heap.size := (Array.getElem?_eq_some_iff.1 h).1
  rw [setCell_eq_setRow W g i _ 5 (0, 0) _ h, setRow_heap W g _ _ 5 _ h]
  simp [List.map_set]

theorem Block.lt {W : World} {g : Nat} {zs : List Int} (h : Block W g zs) : g < W.heap.size := (Array.getElem?_eq_some_iff.1 h).1

theorem Block.below {W W' : World} {g n : Nat} {zs : List Int} (h : Block W g zs) (hb : Below n W W') (hg : g < n) : Block W' g zs := (hb.block g hg).trans h

/-- A row that a call made is a slice of bytes. -/
theorem Block.row {w : World} {g : Nat} {zs : List Int} (h : Block w g zs) {len : Nat} (hl : zs.length = len) (hc : len ≤ 140737488351232) (hby : ∀ z ∈ zs, 0 ≤ z ∧ z ≤ 255) : Row w.heap.size w (some ⟨g, 0, none⟩) len len zs :=
  ⟨hl, Nat.le_refl _, ⟨hc, by omega⟩, hby, fun _ => ⟨g, 0, rfl, h.lt, fun j hj => by rw [Nat.zero_add]; exact h.cell (by omega)⟩⟩

/-- A slice holds these bytes. -/
def Has (w : World) (a : Option Addr) (len : Nat) (zs : List Int) : Prop :=
  zs.length = len ∧ (0 < len → ∃ b off, a = some ⟨b, off, none⟩ ∧ ∀ j, j < len → w.cell? ⟨b, off + j, none⟩ = some (.int .u8 (zs[j]?.getD 0)))

theorem Row.has {n0 : Nat} {w : World} {a : Option Addr} {len cap : Nat} {zs : List Int} (h : Row n0 w a len cap zs) : Has w a len zs :=
  ⟨h.1, fun hp => by obtain ⟨b, off, e, _, hc⟩ := h.2.2.2.2 hp; exact ⟨b, off, e, hc⟩⟩

theorem Has.nil (w : World) : Has w none 0 [] := ⟨rfl, fun h => by omega⟩

theorem Block.has {w : World} {g : Nat} {zs : List Int} (h : Block w g zs) {len : Nat} (hl : zs.length = len) : Has w (some ⟨g, 0, none⟩) len zs :=
  ⟨hl, fun _ => ⟨g, 0, rfl, fun j hj => by rw [Nat.zero_add]; exact h.cell (by omega)⟩⟩

/-- string(b). -/
theorem Has.conv {w : World} {a : Option Addr} {len : Nat} {zs : List Int} (h : Has w a len zs) (cap : Nat) : (convert 34 9 (.slice a len cap)).run Tryz.prog w = .ok (.string (strOfNums zs)) w := by
  by_cases h0 : len = 0
  · subst h0
    have hz : zs = [] := List.eq_nil_of_length_eq_zero h.1
    subst hz
    rw [run_convert_bytes_string w 34 9 5 _ 0 cap Tryz.underlying34 Tryz.underlying5 Tryz.underlying9]
    cases a <;> simp [Conv.bytesToString, loadCells]
    all_goals rfl
  · obtain ⟨b, off, rfl, hc⟩ := h.2 (by omega)
    exact run_convert_bytes_arg w 34 5 Tryz.underlying34 Tryz.underlying5 b off len cap zs h.1 (fun i hi => by rw [hc i hi]; simp) 9 Tryz.underlying9

theorem Has.drewN {w : World} {a : Option Addr} {len : Nat} {zs : List Int} (h : Has w a len zs) (n : Nat) : Has (w.drewN n) a len zs := h

/-- Block g is a row of the call's own whose first len cells are these bytes. -/
def Owns (w : World) (g len : Nat) (zs : List Int) : Prop := zs.length = len ∧ ∃ cur, w.heap[g]? = some (.cells cur 5 (0, 0)) ∧ cur.toList.take len = zs.map (Value.int .u8)

theorem Owns.lt {w : World} {g len : Nat} {zs : List Int} (h : Owns w g len zs) : g < w.heap.size := by obtain ⟨_, cur, hg, _⟩ := h; exact (Array.getElem?_eq_some_iff.1 hg).1

theorem Owns.cell {w : World} {g len : Nat} {zs : List Int} (h : Owns w g len zs) {i : Nat} (hi : i < len) : w.cell? ⟨g, i, none⟩ = some (.int .u8 (zs[i]?.getD 0)) := by
  obtain ⟨hl, cur, hg, ht⟩ := h
  have h1 : (cur.toList.take len)[i]? = some (.int .u8 (zs[i]?.getD 0)) := by
    rw [ht, List.getElem?_map, List.getElem?_eq_getElem (by omega)]; rfl
  rw [List.getElem?_take_of_lt hi] at h1
  simp only [World.cell?, hg]
  simpa using h1

theorem Owns.free {w : World} {g len : Nat} {zs : List Int} (h : Owns w g len zs) (i : Nat) : w.frozen? ⟨g, i, none⟩ = false := by
  obtain ⟨_, cur, hg, _⟩ := h
  simp [World.frozen?, hg]

theorem Owns.set {w : World} {g len : Nat} {zs : List Int} (h : Owns w g len zs) (i : Nat) (z : Int) : Owns (w.setCell ⟨g, i, none⟩ (.int .u8 z)) g len (zs.set i z) := by
  obtain ⟨hl, cur, hg, ht⟩ := h
  refine ⟨by simp [hl], _, by rw [setCell_eq_setRow w g i _ 5 (0, 0) _ hg]; exact setRow_heap w g _ _ 5 _ hg, ?_⟩
  rw [Array.toList_setIfInBounds, List.take_set, ht, List.map_set]

theorem Owns.has {w : World} {g len : Nat} {zs : List Int} (h : Owns w g len zs) : Has w (some ⟨g, 0, none⟩) len zs :=
  ⟨h.1, fun _ => ⟨g, 0, rfl, fun j hj => by rw [Nat.zero_add]; exact h.cell hj⟩⟩

theorem Owns.below {w w' : World} {g len n : Nat} {zs : List Int} (h : Owns w g len zs) (hb : Below n w w') (hg : g < n) : Owns w' g len zs := by
  obtain ⟨hl, cur, hh, ht⟩ := h
  exact ⟨hl, cur, (hb.block g hg).trans hh, ht⟩

theorem owns_of_row {w : World} {base g len cap : Nat} {zs : List Int} (h : w.ownsRow base 5 1 (.slice (some ⟨g, 0, none⟩) len cap) len (zs.map (Value.int .u8))) : base ≤ g ∧ Owns w g len zs := by
  obtain ⟨h1, h2⟩ := h
  rcases h2 with ⟨h2, _⟩ | ⟨g', cap', cur, e, hb, hh, _, _, _, ht⟩
  · cases h2
  · cases e
    exact ⟨hb, by simpa using h1, cur, hh, by simpa using ht⟩

/-- What an append to a new empty slice leaves. -/
theorem grown_own {w w1 : World} {v' : Value} {len : Nat} {zs : List Int} (hp : 0 < len) (h : w1.ownsRow w.heap.size 5 1 v' (0 + len) ([] ++ zs.map (Value.int .u8))) (hg : (w.alloc (.cells #[] 5)).grownBy w1 (some w.heap.size)) :
    ∃ g cap, v' = .slice (some ⟨g, 0, none⟩) len cap ∧ w.heap.size ≤ g ∧ Owns w1 g len zs ∧ Below w.heap.size w w1 := by
  rw [Nat.zero_add, List.nil_append] at h
  have hb : Below w.heap.size w w1 := ((Below.refl _ w).alloc (Nat.le_refl _) _).grown hg (by simp) (fun k e => by cases e; exact Nat.le_refl _)
  rcases h.2 with ⟨_, h0⟩ | ⟨g, cap, cur, rfl, _⟩
  · omega
  · have := owns_of_row h
    exact ⟨g, cap, rfl, this.1, this.2, hb⟩

theorem own_empty (w : World) : (w.alloc (.cells #[] 5)).ownsRow w.heap.size 5 1 (.slice (some ⟨w.heap.size, 0, none⟩) 0 0) 0 [] :=
  ⟨rfl, .inr ⟨w.heap.size, 0, #[], rfl, Nat.le_refl _, World.alloc_heap_new w _, Nat.le_refl _, by unfold maxLen; omega, rfl, rfl⟩⟩

theorem own_base (w : World) : w.heap.size ≤ (w.alloc (.cells #[] 5)).heap.size := by simp

theorem news_row {w : World} {b off len : Nat} {zs : List Int} (hlen : zs.length = len) (hbl : b < w.heap.size) (hcs : ∀ j, j < len → w.cell? ⟨b, off + j, none⟩ = some (.int .u8 (zs[j]?.getD 0))) (o : Obj) :
    ∀ (j : Nat) (u : Value), (zs.map (Value.int .u8))[j]? = some u → (w.alloc o).cell? ((⟨b, off, none⟩ : Addr).add j) = some u := by
  intro j u hv
  rw [World.add_zero_spot, ((Below.refl _ w).alloc (Nat.le_refl _) o).cell (p := ⟨b, off + j, none⟩) hbl]
  have hj : j < zs.length := by
    have := (List.getElem?_eq_some_iff.1 hv).1
    simpa using this
  rw [hcs j (by omega)]
  rw [List.getElem?_map, List.getElem?_eq_getElem hj] at hv
  rw [List.getElem?_eq_getElem hj]
  simpa using hv

theorem Block.row_put {w : World} {g : Nat} {zs : List Int} (h : Block w g zs) (o : Nat) (ds : List Int) :
    Block (w.setRow g (((zs.map (Value.int .u8)).toArray.toList.take o ++ ds.map (Value.int .u8) ++ (zs.map (Value.int .u8)).toArray.toList.drop (o + ds.length)).toArray)) g (put zs o ds) := by
  unfold Block at *
  rw [setRow_heap w g _ _ 5 _ h]
  simp [put, List.map_take, List.map_drop]

theorem run_clear_none (w : World) (ty : TypeId) (a : Option Addr) (c : Nat) : (Builtin.clear_ #[34] ty #[.slice a 0 c]).run Tryz.prog w = .ok (.tuple #[]) w := by
  cases a <;> simp [Builtin.clear_, run_underlying Tryz.underlying34]

theorem run_clear_row {w : World} {g : Nat} {zs : List Int} (h : Block w g zs) (ty : TypeId) (o n c : Nat) (hn : 0 < n) (hfit : o + n ≤ zs.length) :
    (Builtin.clear_ #[34] ty #[.slice (some ⟨g, o, none⟩) n c]).run Tryz.prog w =
      .ok (.tuple #[]) (w.setRow g (((zs.map (Value.int .u8)).toArray.toList.take o ++ (List.replicate n (0 : Int)).map (Value.int .u8) ++ (zs.map (Value.int .u8)).toArray.toList.drop (o + (List.replicate n (0 : Int)).length)).toArray)) := by
  have hzc : (Builtin.zeroCells (Value.int .u8 0).cells n).toList = List.replicate n (Value.int .u8 0) := by
    have : (Value.int .u8 0).cells = #[Value.int .u8 0] := rfl
    rw [this]
    simp [Builtin.zeroCells]
    apply List.ext_getElem
    · simp
    · intro i h1 h2
      simp [Nat.mod_one]
  have hst := run_storeCells_at Tryz.prog g o 5 (List.replicate n (Value.int .u8 0)) 0 _ w h (by simpa using hfit) (by intro v hv'; rw [List.eq_of_mem_replicate hv']; rfl)
  simp only [Nat.add_zero] at hst
  obtain ⟨m, rfl⟩ : ∃ m, n = m + 1 := ⟨n - 1, by omega⟩
  simp only [List.map_replicate, List.length_replicate] at hst ⊢
  simp [Builtin.clear_, run_underlying Tryz.underlying34, hzc, hst]

theorem run_append_zero (w : World) (ty : TypeId) (g cap : Nat) (a : Option Addr) : (Builtin.append_ #[34, 34] ty #[.slice (some ⟨g, 0, none⟩) 0 0, .slice a 0 cap]).run Tryz.prog w = .ok (.slice (some ⟨g, 0, none⟩) 0 0) w := by
  obtain ⟨i0, hi, hz0, hz1, hz2⟩ := info_parts info5
  cases a <;> simp [Builtin.append_, run_underlying Tryz.underlying34, sizeOf, typeInfo, hi, Builtin.lenOf, Builtin.firstCells, storeCells, loadCells, loadCellsFrom]

theorem wpList_append_zero {w : World} {ops : Array Oper} {rest : List Oper} {o : Oper} {a : Act} {Q : Exit → Act → World → Prop} (hgd : o.guard = none) (d s : Operand)
    (ho : o.op = .call { callee := .builtin .append, args := #[d, s], argTypes := #[34, 34] }) (g cap : Nat) (ao : Option Addr) (hd : a.eval d = .slice (some ⟨g, 0, none⟩) 0 0) (hs : a.eval s = .slice ao 0 cap)
    (h : wpList Tryz.prog ops Q rest (a.put o.dst (.slice (some ⟨g, 0, none⟩) 0 0)) w) : wpList Tryz.prog ops Q (o :: rest) a w := by
  refine wpList_plain hgd fun K hK => ?_
  have hrun := run_append_zero w o.type g cap ao
  unfold Oper.wp
  simp [execOp, ho, resolve, invoke, builtin, hd, hs, hrun, Result.andThen]
  exact hK _ _ h

theorem wpList_append_run {w w' : World} {ops : Array Oper} {rest : List Oper} {o : Oper} {a : Act} {Q : Exit → Act → World → Prop} (t : TypeId) (hgd : o.guard = none) (d s : Operand)
    (ho : o.op = .call { callee := .builtin .append, args := #[d, s], argTypes := #[t, t] }) (v x v' : Value) (hd : a.eval d = v) (hs : a.eval s = x)
    (hrun : ∀ ty, (Builtin.append_ #[t, t] ty #[v, x]).run Tryz.prog w = .ok v' w')
    (h : wpList Tryz.prog ops Q rest (a.put o.dst v') w') : wpList Tryz.prog ops Q (o :: rest) a w := by
  refine wpList_plain hgd fun K hK => ?_
  have hr := hrun o.type
  unfold Oper.wp
  simp [execOp, ho, resolve, invoke, builtin, hd, hs, hr, Result.andThen]
  exact hK _ _ h

/-- A slice cut out of a slice: 'b[l:h]', 'b[l:]', 'b[:h]'. -/
def cutAt (a : Option Addr) (cap l : Nat) : Option Addr := if cap = l then a else a.map (·.add (l * 1))

theorem Has.cut {w : World} {a : Option Addr} {len : Nat} {zs : List Int} (h : Has w a len zs) {cap l k : Nat} (hc : len ≤ cap) (hl : l + k ≤ len) : Has w (cutAt a cap l) k ((zs.drop l).take k) := by
  refine ⟨by simp [h.1]; omega, fun hp => ?_⟩
  obtain ⟨b, off, rfl, hcs⟩ := h.2 (by omega)
  refine ⟨b, off + l, ?_, fun j hj => ?_⟩
  · unfold cutAt
    rw [if_neg (by omega), Option.map_some, Nat.mul_one, World.add_zero_spot]
  · rw [Nat.add_assoc, hcs (l + j) (by omega), List.getElem?_take_of_lt hj, List.getElem?_drop]

theorem sizeOf5 (w : World) : (sizeOf (Tryz.prog.elem 34)).run Tryz.prog w = .ok 1 w := by kernel_rfl

theorem elem22 : Tryz.prog.underlying 34 = some (.slice (Tryz.prog.elem 34)) := by kernel_rfl

theorem run_cut_lh (a : Option Addr) (len cap l k : Nat) (h : l + k ≤ cap) (w : World) :
    (Instr.slice 34 (.slice a len cap) (some (.int .i64 (l : Int))) (some (.int .i64 ((l : Int) + (k : Int)))) none).run Tryz.prog w = .ok (.slice (cutAt a cap l) k (cap - l)) w := by
  rw [run_slice_lh (P := Tryz.prog) (w := w) 34 a len cap elem22 .i64 .i64 l (l + k) (by omega) (by omega) (by omega), sizeOf5]
  simp only [Result.andThen, sliced]
  have e1 : (l : Int).toNat = l := by omega
  have e2 : ((l : Int) + (k : Int)).toNat = l + k := by omega
  rw [e1, e2]
  simp [cutAt, Nat.add_sub_cancel_left]

theorem run_cut_l (a : Option Addr) (len cap l : Nat) (h : l ≤ len) (w : World) :
    (Instr.slice 34 (.slice a len cap) (some (.int .i64 (l : Int))) none none).run Tryz.prog w = .ok (.slice (cutAt a cap l) (len - l) (cap - l)) w := by
  rw [run_slice_l (P := Tryz.prog) (w := w) 34 a len cap elem22 .i64 l (by omega) (by omega), sizeOf5]
  simp only [Result.andThen, sliced]
  have e1 : (l : Int).toNat = l := by omega
  rw [e1]
  simp [cutAt]

theorem run_cut_h (a : Option Addr) (len cap k : Nat) (h : k ≤ cap) (w : World) :
    (Instr.slice 34 (.slice a len cap) none (some (.int .i64 (k : Int))) none).run Tryz.prog w = .ok (.slice (cutAt a cap 0) k cap) w := by
  rw [run_slice_h (P := Tryz.prog) (w := w) 34 a len cap elem22 .i64 k (by omega) (by omega), sizeOf5]
  simp only [Result.andThen, sliced]
  have e1 : (k : Int).toNat = k := by omega
  rw [e1]
  simp [cutAt]

theorem cut_lh {w : World} {a : Option Addr} {len : Nat} {zs : List Int} (h : Has w a len zs) {cap l k : Nat} (hc : len ≤ cap) (hl : l + k ≤ len) :
    ∃ a1 c1, (∀ w, (Instr.slice 34 (.slice a len cap) (some (.int .i64 (l : Int))) (some (.int .i64 ((l : Int) + (k : Int)))) none).run Tryz.prog w = .ok (.slice a1 k c1) w) ∧ k ≤ c1 ∧ Has w a1 k ((zs.drop l).take k) :=
  ⟨_, _, fun w => run_cut_lh a len cap l k (by omega) w, by omega, h.cut hc hl⟩

theorem cut_l {w : World} {a : Option Addr} {len : Nat} {zs : List Int} (h : Has w a len zs) {cap l : Nat} (hc : len ≤ cap) (hl : l ≤ len) :
    ∃ a1 c1, (∀ w, (Instr.slice 34 (.slice a len cap) (some (.int .i64 (l : Int))) none none).run Tryz.prog w = .ok (.slice a1 (len - l) c1) w) ∧ len - l ≤ c1 ∧ Has w a1 (len - l) (zs.drop l) := by
  refine ⟨_, _, fun w => run_cut_l a len cap l hl w, by omega, ?_⟩
  have := h.cut hc (l := l) (k := len - l) (by omega)
  rwa [List.take_of_length_le (by simp [h.1])] at this

theorem cut_h {w : World} {a : Option Addr} {len : Nat} {zs : List Int} (h : Has w a len zs) {cap k : Nat} (hc : len ≤ cap) (hk : k ≤ len) :
    ∃ a1 c1, (∀ w, (Instr.slice 34 (.slice a len cap) none (some (.int .i64 (k : Int))) none).run Tryz.prog w = .ok (.slice a1 k c1) w) ∧ k ≤ c1 ∧ Has w a1 k (zs.take k) := by
  refine ⟨_, _, fun w => run_cut_h a len cap k (by omega) w, by omega, ?_⟩
  have := h.cut hc (l := 0) (k := k) (by omega)
  simpa using this

/-- A slice of bytes that starts its own row. -/
def Own (B : Nat) (w : World) (a : Option Addr) (n c : Nat) (xs : List Int) : Prop :=
  xs.length = n ∧ n ≤ c ∧ c ≤ maxLen ∧ ((a = none ∧ n = 0 ∧ c = 0) ∨ ∃ g cur, a = some ⟨g, 0, none⟩ ∧ B ≤ g ∧ w.heap[g]? = some (.cells cur 5 (0, 0)) ∧ cur.size = c ∧ cur.toList.take n = xs.map (Value.int .u8))

theorem Own.kept {B : Nat} {w w' : World} {a : Option Addr} {n c : Nat} {xs : List Int} (h : Own B w a n c xs) (hk : ∀ g, a = some ⟨g, 0, none⟩ → w'.heap[g]? = w.heap[g]?) : Own B w' a n c xs := by
  obtain ⟨h1, h2, h3, h4⟩ := h
  refine ⟨h1, h2, h3, ?_⟩
  rcases h4 with h4 | ⟨g, cur, e, hg, hh, r⟩
  · exact .inl h4
  · exact .inr ⟨g, cur, e, hg, (hk g e).trans hh, r⟩

theorem Own.cell {B : Nat} {w : World} {a : Option Addr} {n c : Nat} {xs : List Int} (h : Own B w a n c xs) {j : Nat} (hj : j < n) : ∃ g, a = some ⟨g, 0, none⟩ ∧ B ≤ g ∧ w.cell? ⟨g, j, none⟩ = some (.int .u8 (xs[j]?.getD 0)) ∧ w.frozen? ⟨g, j, none⟩ = false := by
  obtain ⟨h1, h2, h3, h4⟩ := h
  rcases h4 with ⟨_, h4, _⟩ | ⟨g, cur, e, hg, hh, hc, ht⟩
  · omega
  · refine ⟨g, e, hg, ?_, by simp [World.frozen?, hh]⟩
    have hx : (cur.toList.take n)[j]? = some (.int .u8 (xs[j]?.getD 0)) := by
      rw [ht, List.getElem?_map, List.getElem?_eq_getElem (by omega)]; rfl
    rw [List.getElem?_take_of_lt hj] at hx
    simp only [World.cell?, hh]
    simpa using hx

theorem Own.set {B : Nat} {w : World} {g n c : Nat} {xs : List Int} (h : Own B w (some ⟨g, 0, none⟩) n c xs) (j : Nat) (z : Int) : Own B (w.setCell ⟨g, j, none⟩ (.int .u8 z)) (some ⟨g, 0, none⟩) n c (xs.set j z) := by
  obtain ⟨h1, h2, h3, h4⟩ := h
  rcases h4 with ⟨h4, _⟩ | ⟨g', cur, e, hg, hh, hc, ht⟩
  · cases h4
  · cases e
    refine ⟨by simp [h1], h2, h3, .inr ⟨g, _, rfl, hg, by rw [setCell_eq_setRow w g j _ 5 (0, 0) _ hh]; exact setRow_heap w g _ _ 5 _ hh, by simpa using hc, ?_⟩⟩
    rw [Array.toList_setIfInBounds, List.take_set, ht, List.map_set]

/-- The new byte of an append, in its own new block. -/
theorem run_append_byte (B : Nat) (w : World) (ty : TypeId) (a : Option Addr) (n c : Nat) (xs : List Int) (h : Own B w a n c xs) (hB : B ≤ w.heap.size) (nb : Nat) (z : Int) (hz : w.cell? ⟨nb, 0, none⟩ = some (.int .u8 z)) (hn : n + 1 ≤ 140737488355328) :
    ∃ a' c' w', (Builtin.append_ #[34, 34] ty #[.slice a n c, .slice (some ⟨nb, 0, none⟩) 1 1]).run Tryz.prog w = .ok (.slice a' (n + 1) c') w' ∧ Own B w' a' (n + 1) c' (xs ++ [z]) ∧
      (∀ k, k < w.heap.size → (∀ g, a = some ⟨g, 0, none⟩ → k ≠ g) → w'.heap[k]? = w.heap[k]?) ∧ Below B w w' ∧
      ((a' = a ∧ c' = c ∧ ∀ m, m ≤ n → Own B w' a m c (xs.take m)) ∨ (∃ g', a' = some ⟨g', 0, none⟩ ∧ w.heap.size ≤ g' ∧ ∀ k, k < w.heap.size → w'.heap[k]? = w.heap[k]?)) := by
  obtain ⟨i0, hi, hz0, hz1, hz2⟩ := info_parts info5
  have hnews : ∀ (j : Nat) (u : Value), [Value.int .u8 z][j]? = some u → w.cell? ((⟨nb, 0, none⟩ : Addr).add j) = some u := by
    intro j u hj
    cases j with
    | zero => simp at hj; subst hj; simpa [Addr.add] using hz
    | succ j => simp at hj
  have h1c : ∀ u ∈ [Value.int .u8 z], u.oneCell' = true := by intro u hu; simp at hu; subst hu; rfl
  have hmax : n + 1 ≤ maxLen := by unfold maxLen; omega
  obtain ⟨h1, h2, h3, h4⟩ := h
  have growCase : c < n + 1 → ∀ (v : Value) (w' : World), w'.ownsRow w.heap.size 5 1 v (n + 1) (xs.map (Value.int .u8) ++ [Value.int .u8 z]) → w.grownBy w' none →
      ∃ a' c', v = .slice a' (n + 1) c' ∧ Own B w' a' (n + 1) c' (xs ++ [z]) ∧ (∀ k, k < w.heap.size → (∀ g, a = some ⟨g, 0, none⟩ → k ≠ g) → w'.heap[k]? = w.heap[k]?) ∧ Below B w w' ∧
        (∃ g', a' = some ⟨g', 0, none⟩ ∧ w.heap.size ≤ g' ∧ ∀ k, k < w.heap.size → w'.heap[k]? = w.heap[k]?) := by
    intro hc v w' ho hg
    have hb : ∀ k, k < w.heap.size → w'.heap[k]? = w.heap[k]? := fun k hk => hg.block k hk (by simp)
    rcases ho.2 with ⟨_, h0⟩ | ⟨g', cap', cur, rfl, hbg, hh, hnc, hcm, hcs, ht⟩
    · omega
    · refine ⟨some ⟨g', 0, none⟩, cap', rfl, ⟨by simp [h1], hnc, hcm, .inr ⟨g', cur, rfl, by omega, hh, by simpa using hcs, by simpa using ht⟩⟩, fun k hk _ => hb k hk, ⟨hg.os, hg.tape, hg.output, hg.size, fun k hk => hb k (by omega)⟩, g', rfl, hbg, hb⟩
  rcases h4 with ⟨rfl, rfl, rfl⟩ | ⟨g, cur, rfl, hg, hh, hc, ht⟩
  · have hx : xs = [] := List.eq_nil_of_length_eq_zero h1
    subst hx
    obtain ⟨v, w', hr, ho, hgr, _⟩ := run_append_own (P := Tryz.prog) w w.heap.size 34 ty 5 i0 (.int .u8 0) 1 1 Tryz.underlying34 hi hz0 hz1 hz2 rfl (by decide) (.slice none 0 0) 0 [] (World.ownsRow_nil w _ 5 1) ⟨nb, 0, none⟩ 1 1 [Value.int .u8 z] rfl hnews h1c hmax (by omega) (Nat.le_refl _)
    obtain ⟨a', c', rfl, k1, k2, k3, k4⟩ := growCase (by omega) v w' (by simpa using ho) (by simpa [Value.ownBlock] using hgr)
    exact ⟨a', c', w', hr, k1, k2, k3, .inr k4⟩
  · have holds : ∀ (j : Nat) (u : Value), (xs.map (Value.int .u8))[j]? = some u → w.cell? ((⟨g, 0, none⟩ : Addr).add j) = some u := by
      intro j u hj
      rw [World.add_zero_spot, Nat.zero_add]
      have hjl : j < n := by have := (List.getElem?_eq_some_iff.1 hj).1; simp at this; omega
      rw [← ht, List.getElem?_take_of_lt hjl] at hj
      simp only [World.cell?, hh]
      simpa using hj
    by_cases hroom : n + 1 ≤ c
    · have hr := run_append_room (P := Tryz.prog) w 34 ty 5 i0 Tryz.underlying34 hi g n c cur hh ⟨nb, 0, none⟩ 1 1 [Value.int .u8 z] (by rw [hz1]; rfl) hnews h1c hroom (by rw [hz1, hc]; simp; omega)
      refine ⟨_, c, _, hr, ?_, ?_, below_setRow (Below.refl _ _) hg _, .inl ⟨rfl, rfl, ?_⟩⟩
      · refine ⟨by simp [h1], hroom, h3, .inr ⟨g, _, rfl, hg, setRow_heap w g cur _ 5 _ hh, ?_, ?_⟩⟩
        · simp [hz1]; omega
        · rw [hz1, Nat.mul_one, ht]
          have hl : (xs.map (Value.int .u8) ++ [Value.int .u8 z]).length = n + 1 := by simp [h1]
          rw [List.toList_toArray, List.take_append_of_le_length (by omega), List.take_of_length_le (by omega)]
          simp
      · intro k _ hk
        exact setRow_other w g k _ (hk g rfl)
      · intro m hm
        refine ⟨by simp; omega, by omega, h3, .inr ⟨g, _, rfl, hg, setRow_heap w g cur _ 5 _ hh, ?_, ?_⟩⟩
        · simp [hz1]; omega
        · rw [hz1, Nat.mul_one, ht, List.append_assoc]
          rw [List.toList_toArray, List.take_append_of_le_length (by simp; omega), List.map_take]
    · obtain ⟨v, w', hr, ho, hgr⟩ := run_append_arg_grows (P := Tryz.prog) w 34 ty 5 i0 (.int .u8 0) 1 1 Tryz.underlying34 hi hz0 hz1 hz2 rfl (by decide) ⟨g, 0, none⟩ n c (xs.map (Value.int .u8)) (by simp [h1]) holds ⟨nb, 0, none⟩ 1 1 [Value.int .u8 z] rfl hnews (by omega) hmax (by omega)
      obtain ⟨a', c', rfl, k1, k2, k3, k4⟩ := growCase (by omega) v w' ho hgr
      exact ⟨a', c', w', hr, k1, k2, k3, .inr k4⟩

theorem Own.lt {B : Nat} {w : World} {a : Option Addr} {n c : Nat} {xs : List Int} (h : Own B w a n c xs) {g : Nat} (e : a = some ⟨g, 0, none⟩) : g < w.heap.size ∧ B ≤ g ∧ ∃ cur, w.heap[g]? = some (.cells cur 5 (0, 0)) := by
  obtain ⟨_, _, _, h4⟩ := h
  rcases h4 with ⟨h4, _⟩ | ⟨g', cur, e', hg, hh, _⟩
  · rw [h4] at e; cases e
  · rw [e] at e'; cases e'
    exact ⟨(Array.getElem?_eq_some_iff.1 hh).1, hg, cur, hh⟩

/-- The row of the grown slices is kept where its block is. -/
theorem ownsRow_block {w w' : World} {B e size n : Nat} {v : Value} {xs : List Value} (h : w.ownsRow B e size v n xs) (hk : ∀ g cur, B ≤ g → w.heap[g]? = some (.cells cur e (0, 0)) → w'.heap[g]? = w.heap[g]?) : w'.ownsRow B e size v n xs := by
  obtain ⟨h1, h2⟩ := h
  refine ⟨h1, ?_⟩
  rcases h2 with h2 | ⟨g, cap, cur, rfl, hb, hh, r⟩
  · exact .inl h2
  · exact .inr ⟨g, cap, cur, rfl, hb, (hk g cur hb hh).trans hh, r⟩

theorem Own.below {B n : Nat} {w w' : World} {a : Option Addr} {l c : Nat} {xs : List Int} (h : Own B w a l c xs) (hb : Below n w w') (hn : w.heap.size ≤ n) : Own B w' a l c xs :=
  h.kept (fun g e => hb.block g (by have := (h.lt e).1; omega))

theorem Own.base {B B' : Nat} {w : World} {a : Option Addr} {l c : Nat} {xs : List Int} (h : Own B w a l c xs) (hb : B' ≤ B) : Own B' w a l c xs := by
  obtain ⟨h1, h2, h3, h4⟩ := h
  refine ⟨h1, h2, h3, ?_⟩
  rcases h4 with h4 | ⟨g, cur, e, hg, r⟩
  · exact .inl h4
  · exact .inr ⟨g, cur, e, by omega, r⟩

theorem Own.nil (B : Nat) (w : World) : Own B w none 0 0 [] := ⟨rfl, Nat.le_refl _, by unfold maxLen; omega, .inl ⟨rfl, rfl, rfl⟩⟩

theorem Block.own {w : World} {g B : Nat} {zs : List Int} (h : Block w g zs) {len : Nat} (hl : zs.length = len) (hB : B ≤ g) (hm : len ≤ 140737488351232) : Own B w (some ⟨g, 0, none⟩) len len zs :=
  ⟨hl, Nat.le_refl _, by unfold maxLen; omega, .inr ⟨g, _, rfl, hB, h, by simpa using hl, by rw [List.toList_toArray, ← hl, List.take_of_length_le (by simp)]⟩⟩

/-- A text's bytes as numbers. -/
def byts (s : ByteArray) : List Int := s.data.toList.map (fun b => (b.toNat : Int))

theorem bsize (s : ByteArray) : s.data.toList.length = s.size := rfl

theorem byts_length (s : ByteArray) : (byts s).length = s.size := by rw [byts, List.length_map, bsize]

theorem byts_byte (s : ByteArray) : ∀ z ∈ byts s, 0 ≤ z ∧ z ≤ 255 := by
  intro z hz
  simp only [byts, List.mem_map] at hz
  obtain ⟨b, _, rfl⟩ := hz
  have := b.toNat_lt
  omega

theorem byts_get (s : ByteArray) (k : Nat) (h : k < s.size) : (byts s)[k]?.getD 0 = (s[k].toNat : Int) := by
  have h' : k < s.data.toList.length := by rw [bsize]; exact h
  simp only [byts, List.getElem?_map, List.getElem?_eq_getElem h', Option.map_some, Option.getD_some]
  rfl

theorem strOfNums_byts (s : ByteArray) : strOfNums (byts s) = s := by
  obtain ⟨⟨l⟩⟩ := s
  simp [strOfNums, byts]
  apply List.ext_getElem
  · simp
  · intro i h1 h2
    simp

theorem byts_cells (s : ByteArray) : (byts s).map (Value.int .u8) = Lib.byteCells s.data.toList := by simp [byts, Lib.byteCells]

theorem cell_block_lt {w : World} {x : Addr} {v : Value} (h : w.cell? x = some v) : x.block < w.heap.size := by
  cases hb : w.heap[x.block]? with
  | none => simp [World.cell?, hb] at h
  | some o => exact (Array.getElem?_eq_some_iff.1 hb).1

end Go.Proofs.YtknmgefpjdfenaaGreat
