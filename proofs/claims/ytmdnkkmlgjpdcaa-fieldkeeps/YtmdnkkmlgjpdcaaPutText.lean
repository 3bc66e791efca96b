/- The contract of field.PutText. -/
import Derived.Test.YtmdnkkmlgjpdcaaIdx
import Derived.Test.YtmdnkkmlgjpdcaaRefText
import Derived.Lib.BufferWrite
import Derived.Test.YtmdnkkmlgjpdcaaPutAll
namespace Go.Proofs.Ytmdnkkmlgjpdcaa
open Go.RowKit Go.Shelf
set_option linter.unusedVariables false

/-- The error of PutText. -/
def ptErr (len : Nat) (at' n : Int) (s : ByteArray) : Int := if partErr len at' n = 0 then (if n < (s.size : Int) then 5 else if hasZ s = true then 3 else 0) else partErr len at' n
/-- What PutText writes. -/
def ptData (n : Nat) (s : ByteArray) : List Int := byts s ++ List.replicate (n - s.size) 0
theorem ptData_length {n : Nat} {s : ByteArray} (h : s.size ≤ n) : (ptData n s).length = n := by rw [ptData, List.length_append, byts_length, List.length_replicate]; omega
theorem ptData_byte (n : Nat) (s : ByteArray) : ∀ z ∈ ptData n s, 0 ≤ z ∧ z ≤ 255 := by
  intro z hz
  rcases List.mem_append.1 hz with h | h
  · exact byts_byte s z h
  · rw [List.eq_of_mem_replicate h]; omega

theorem byts_cells (s : ByteArray) : (byts s).map (Value.int .u8) = Lib.byteCells s.data.toList := by simp [byts, Lib.byteCells]

theorem Block.row_put {w : World} {g : Nat} {zs : List Int} (h : Block w g zs) (o : Nat) (ds : List Int) :
    Block (w.setRow g (((zs.map (Value.int .u8)).toArray.toList.take o ++ ds.map (Value.int .u8) ++ (zs.map (Value.int .u8)).toArray.toList.drop (o + ds.length)).toArray)) g (put zs o ds) := by
  unfold Block at *
  rw [setRow_heap w g _ _ 5 _ h]
  simp [put, List.map_take, List.map_drop]

theorem run_clear_none (w : World) (ty : TypeId) (a : Option Addr) (c : Nat) : (Builtin.clear_ #[22] ty #[.slice a 0 c]).run Try.prog w = .ok (.tuple #[]) w := by
  cases a <;> simp [Builtin.clear_, run_underlying Try.underlying22]

theorem run_clear_row {w : World} {g : Nat} {zs : List Int} (h : Block w g zs) (ty : TypeId) (o n c : Nat) (hn : 0 < n) (hfit : o + n ≤ zs.length) :
    (Builtin.clear_ #[22] ty #[.slice (some ⟨g, o, none⟩) n c]).run Try.prog w =
      .ok (.tuple #[]) (w.setRow g (((zs.map (Value.int .u8)).toArray.toList.take o ++ (List.replicate n (0 : Int)).map (Value.int .u8) ++ (zs.map (Value.int .u8)).toArray.toList.drop (o + (List.replicate n (0 : Int)).length)).toArray)) := by
  have hzc : (Builtin.zeroCells (Value.int .u8 0).cells n).toList = List.replicate n (Value.int .u8 0) := by
    have : (Value.int .u8 0).cells = #[Value.int .u8 0] := rfl
    rw [this]
    simp [Builtin.zeroCells]
    apply List.ext_getElem
    · simp
    · intro i h1 h2
      simp [Nat.mod_one]
  have hst := run_storeCells_at Try.prog g o 5 (List.replicate n (Value.int .u8 0)) 0 _ w h (by simpa using hfit) (by intro v hv'; rw [List.eq_of_mem_replicate hv']; rfl)
  simp only [Nat.add_zero] at hst
  obtain ⟨m, rfl⟩ : ∃ m, n = m + 1 := ⟨n - 1, by omega⟩
  simp only [List.map_replicate, List.length_replicate] at hst ⊢
  simp [Builtin.clear_, run_underlying Try.underlying22, hzc, hst]

theorem put_put (zs ds es : List Int) (o : Nat) (h : o + ds.length + es.length ≤ zs.length) : put (put zs o ds) (o + ds.length) es = put zs o (ds ++ es) := by
  have h1 : (zs.take o ++ ds).length = o + ds.length := by simp; omega
  have e1 : (put zs o ds).take (o + ds.length) = zs.take o ++ ds := by
    rw [put, List.take_append_of_le_length (by omega), List.take_of_length_le (by omega)]
  have e2 : (put zs o ds).drop (o + ds.length + es.length) = zs.drop (o + (ds ++ es).length) := by
    rw [put, List.drop_append, List.drop_of_length_le (by omega), List.nil_append, h1, List.drop_drop]
    congr 1; simp; omega
  rw [put, e1, e2, put]
  simp

/-- The steps of PutText behind renew. -/
theorem putText_steps (w1 : World) (g len at0 n0 : Nat) (zs : List Int) (s : ByteArray) (hB : Block w1 g zs) (hlen : zs.length = len) (hat : at0 + n0 ≤ len) (hs : s.size ≤ n0) :
    ∃ a1 c1 a2 c2 w2 w3, (∀ w, (Instr.slice 22 (.slice (some ⟨g, 0, none⟩) len len) (some (.int .i64 (at0 : Int))) (some (.int .i64 ((at0 : Int) + (n0 : Int)))) none).run Try.prog w = .ok (.slice a1 n0 c1) w) ∧
      (∀ ty, (Builtin.copy_ #[22, 9] ty #[.slice a1 n0 c1, .string s]).run Try.prog w1 = .ok (goInt s.size) w2) ∧
      (∀ w, (Instr.slice 22 (.slice a1 n0 c1) (some (.int .i64 (s.size : Int))) none none).run Try.prog w = .ok (.slice a2 (n0 - s.size) c2) w) ∧
      (∀ ty, (Builtin.clear_ #[22] ty #[.slice a2 (n0 - s.size) c2]).run Try.prog w2 = .ok (.tuple #[]) w3) ∧
      Block w3 g (put zs at0 (ptData n0 s)) ∧ Below g w1 w3 := by
  have e1 := run_cut_lh (some ⟨g, 0, none⟩) len len at0 n0 hat
  have e2 := run_cut_l (cutAt (some ⟨g, 0, none⟩) len at0) n0 (len - at0) s.size hs
  obtain ⟨w2, hcp, hB2, hb2⟩ : ∃ w2, (∀ ty, (Builtin.copy_ #[22, 9] ty #[.slice (cutAt (some ⟨g, 0, none⟩) len at0) n0 (len - at0), .string s]).run Try.prog w1 = .ok (goInt s.size) w2) ∧ Block w2 g (put zs at0 (byts s)) ∧ Below g w1 w2 := by
    by_cases h0 : s.size = 0
    · refine ⟨w1, fun ty => ?_, ?_, Below.refl _ _⟩
      · rw [Lib.run_copy_empty_string w1 22 9 ty 5 _ n0 _ s Try.underlying22 (by kernel_rfl) h0, h0]
        rfl
      · have : byts s = [] := List.eq_nil_of_length_eq_zero (by rw [byts_length]; exact h0)
        rw [this]; simpa [put] using hB
    · have ea : cutAt (some ⟨g, 0, none⟩) len at0 = some ⟨g, at0, none⟩ := by
        unfold cutAt; rw [if_neg (by omega), Option.map_some, Nat.mul_one, World.add_zero_spot, Nat.zero_add]
      rw [ea]
      have hr := hB.row_put at0 (byts s)
      rw [byts_cells, byts_length] at hr
      exact ⟨_, fun ty => Lib.run_copy_row_string w1 22 9 ty 5 g at0 n0 _ s _ 5 Try.underlying22 size5 hB hs (by simp; omega), hr, below_setRow (Below.refl _ _) (Nat.le_refl _) _⟩
  have hl2 : (put zs at0 (byts s)).length = len := by rw [length_put _ _ _ (by rw [byts_length]; omega)]; exact hlen
  obtain ⟨w3, hcl, hB3, hb3⟩ : ∃ w3, (∀ ty, (Builtin.clear_ #[22] ty #[.slice (cutAt (cutAt (some ⟨g, 0, none⟩) len at0) (len - at0) s.size) (n0 - s.size) (len - at0 - s.size)]).run Try.prog w2 = .ok (.tuple #[]) w3) ∧ Block w3 g (put zs at0 (ptData n0 s)) ∧ Below g w2 w3 := by
    by_cases h0 : n0 - s.size = 0
    · refine ⟨w2, fun ty => ?_, ?_, Below.refl _ _⟩
      · rw [h0]; exact run_clear_none _ _ _ _
      · rw [ptData, h0]; simpa using hB2
    · have ea : cutAt (some ⟨g, 0, none⟩) len at0 = some ⟨g, at0, none⟩ := by
        unfold cutAt; rw [if_neg (by omega), Option.map_some, Nat.mul_one, World.add_zero_spot, Nat.zero_add]
      have eb : cutAt (some ⟨g, at0, none⟩) (len - at0) s.size = some ⟨g, at0 + s.size, none⟩ := by
        unfold cutAt; rw [if_neg (by omega), Option.map_some, Nat.mul_one, World.add_zero_spot]
      rw [ea, eb]
      have hr := hB2.row_put (at0 + s.size) (List.replicate (n0 - s.size) 0)
      have hpp : put (put zs at0 (byts s)) (at0 + s.size) (List.replicate (n0 - s.size) 0) = put zs at0 (ptData n0 s) := by
        have := put_put zs (byts s) (List.replicate (n0 - s.size) 0) at0 (by rw [byts_length, List.length_replicate]; omega)
        rw [byts_length] at this
        exact this
      rw [hpp] at hr
      exact ⟨_, fun ty => run_clear_row hB2 ty (at0 + s.size) (n0 - s.size) _ (by omega) (by omega), hr, below_setRow (Below.refl _ _) (Nat.le_refl _) _⟩
  exact ⟨_, _, _, _, w2, w3, e1, hcp, e2, hcl, hB3, hb2.trans hb3⟩

set_option maxRecDepth 100000 in
set_option maxHeartbeats 1000000 in
theorem putText_ok (a : Option Addr) (len cap at0 n0 : Nat) (zs : List Int) (s : ByteArray) (w : World) (hr : Row w.heap.size w a len cap zs) (hat : at0 + n0 ≤ len) (hs : s.size ≤ n0) (hz : hasZ s = false) :
    Calls Try.prog 16 #[.slice a len cap, .int .i64 (at0 : Int), .int .i64 (n0 : Int), .string s] w fun e w' =>
      e = .returned (.tuple #[.slice (some ⟨w.heap.size, 0, none⟩) len len, .int .i64 0]) ∧ Block w' w.heap.size (put zs at0 (ptData n0 s)) ∧ Below w.heap.size w w' := by
  have hlc := hr.2.1
  have hcm := hr.2.2.1
  have hlen := hr.1
  have K0 := hide (checkPart_ok a len cap at0 n0 w (by omega) hat)
  have K1 := hide (renew_any a len cap zs w hr)
  have K2 := hide (fun w1 hB => putText_steps w1 w.heap.size len at0 n0 zs s hB hlen hat hs)
  have hsg := idx_sign s
  rw [hz] at hsg
  have hneg : ¬ 0 ≤ Lib.indexByte s.data.toList 0 := of_decide_eq_false hsg
  obtain ⟨q, hq⟩ : ∃ q, Lib.indexByte s.data.toList 0 = q := ⟨_, rfl⟩
  have K3 := hide (fun w => idx_any s w)
  rw [hq] at hneg K3
  clear hr hsg hq hz
  go_enter Try.func16, Try.ntmps16
  go_wp2_with (first
    | (go_at_call 27; refine (unhide K0).mono ?_; rintro e w' ⟨rfl, rfl⟩)
    | (go_at_call 32; refine (unhide K3 _).mono ?_; rintro e w' ⟨rfl, rfl⟩)
    | (go_at_call 26; refine (unhide K1).mono ?_; rintro e w1 ⟨rfl, hB1, hb1⟩; obtain ⟨a1, c1, a2, c2, w2, w3, hs1, hcp, hs2, hcl, hB3, hb3⟩ := unhide K2 w1 hB1; clear hB1))
  go_ret2
  exact ⟨rfl, hB3, hb1.trans hb3⟩

set_option maxRecDepth 100000 in
set_option maxHeartbeats 1000000 in
theorem putText_err (a : Option Addr) (len cap : Nat) (at' n : Int) (s : ByteArray) (w : World) (hl : len ≤ 140737488351232) (ha : at' ≤ 9223372036854775807) (hn : -9223372036854775808 ≤ n) (he : partErr len at' n ≠ 0) :
    Calls Try.prog 16 #[.slice a len cap, .int .i64 at', .int .i64 n, .string s] w fun e w' => e = .returned (.tuple #[.slice none 0 0, .int .i64 (partErr len at' n)]) ∧ w = w' := by
  have hc := checkPart_any a len cap at' n w (by unfold maxLen; omega) ha hn
  obtain ⟨q, hq⟩ : ∃ q, partErr len at' n = q := ⟨_, rfl⟩
  rw [hq] at hc he ⊢
  clear hq
  have hne : (q != 0) = true := by simpa using he
  have HC := hide hc
  clear hc he
  go_enter Try.func16, Try.ntmps16
  go_wp2_with (go_at_call 27; refine (unhide HC).mono ?_; rintro e w' ⟨rfl, rfl⟩)
  go_ret2
  exact ⟨rfl, rfl⟩

set_option maxRecDepth 100000 in
set_option maxHeartbeats 1000000 in
theorem putText_bad (a : Option Addr) (len cap at0 n0 : Nat) (s : ByteArray) (w : World) (hl : len ≤ 140737488351232) (hs0 : s.size ≤ 140737488351232) (hat : at0 + n0 ≤ len) :
    (n0 < s.size → Calls Try.prog 16 #[.slice a len cap, .int .i64 (at0 : Int), .int .i64 (n0 : Int), .string s] w fun e w' => e = .returned (.tuple #[.slice none 0 0, .int .i64 5]) ∧ w = w') ∧
    (s.size ≤ n0 → hasZ s = true → Calls Try.prog 16 #[.slice a len cap, .int .i64 (at0 : Int), .int .i64 (n0 : Int), .string s] w fun e w' => e = .returned (.tuple #[.slice none 0 0, .int .i64 3]) ∧ w = w') := by
  have K0 := hide (checkPart_ok a len cap at0 n0 w hl hat)
  refine ⟨fun h => ?_, fun h hz => ?_⟩
  · go_enter Try.func16, Try.ntmps16
    go_wp2_with (go_at_call 27; refine (unhide K0).mono ?_; rintro e w' ⟨rfl, rfl⟩)
    go_ret2
    exact ⟨rfl, rfl⟩
  · have hsg := idx_sign s
    rw [hz] at hsg
    have hpos : 0 ≤ Lib.indexByte s.data.toList 0 := of_decide_eq_true hsg
    obtain ⟨q, hq⟩ : ∃ q, Lib.indexByte s.data.toList 0 = q := ⟨_, rfl⟩
    have K3 := hide (fun w => idx_any s w)
    rw [hq] at hpos K3
    clear hsg hq hz
    go_enter Try.func16, Try.ntmps16
    go_wp2_with (first
      | (go_at_call 27; refine (unhide K0).mono ?_; rintro e w' ⟨rfl, rfl⟩)
      | (go_at_call 32; refine (unhide K3 _).mono ?_; rintro e w' ⟨rfl, rfl⟩))
    go_ret2
    exact ⟨rfl, rfl⟩

theorem ptErr_cases (len : Nat) (at' n : Int) (s : ByteArray) : (partErr len at' n ≠ 0 ∧ ptErr len at' n s = partErr len at' n) ∨
    (∃ at0 n0 : Nat, at' = at0 ∧ n = n0 ∧ at0 + n0 ≤ len ∧ partErr len at' n = 0 ∧ ((n0 < s.size ∧ ptErr len at' n s = 5) ∨ (s.size ≤ n0 ∧ hasZ s = true ∧ ptErr len at' n s = 3) ∨ (s.size ≤ n0 ∧ hasZ s = false ∧ ptErr len at' n s = 0))) := by
  by_cases he : partErr len at' n = 0
  · obtain ⟨at0, n0, rfl, rfl, hat⟩ := part_ok he
    refine .inr ⟨at0, n0, rfl, rfl, hat, he, ?_⟩
    unfold ptErr
    rw [if_pos he]
    by_cases h1 : n0 < s.size
    · exact .inl ⟨h1, by rw [if_pos (by omega)]⟩
    · rw [if_neg (by omega)]
      by_cases h2 : hasZ s = true
      · exact .inr (.inl ⟨by omega, h2, by rw [if_pos h2]⟩)
      · exact .inr (.inr ⟨by omega, by simpa using h2, by rw [if_neg h2]⟩)
  · exact .inl ⟨he, by unfold ptErr; rw [if_neg he]⟩

/-- **field.PutText** -/
theorem putText_any (a : Option Addr) (len cap : Nat) (zs : List Int) (at' n : Int) (s : ByteArray) (w : World) (hr : Row w.heap.size w a len cap zs) (ha : at' ≤ 9223372036854775807) (hn : -9223372036854775808 ≤ n) (hs0 : s.size ≤ 140737488351232) :
    Calls Try.prog 16 #[.slice a len cap, .int .i64 at', .int .i64 n, .string s] w fun e w' => Below w.heap.size w w' ∧
      ((ptErr len at' n s ≠ 0 ∧ e = .returned (.tuple #[.slice none 0 0, .int .i64 (ptErr len at' n s)])) ∨
       (ptErr len at' n s = 0 ∧ e = .returned (.tuple #[.slice (some ⟨w.heap.size, 0, none⟩) len len, .int .i64 0]) ∧ Block w' w.heap.size (put zs at'.toNat (ptData n.toNat s)))) := by
  have hlen := hr.1
  have hcap := hr.2.2.1
  have hlc := hr.2.1
  rcases ptErr_cases len at' n s with ⟨h, he⟩ | ⟨at0, n0, rfl, rfl, hat, h, (⟨h1, he⟩ | ⟨h1, h2, he⟩ | ⟨h1, h2, he⟩)⟩
  · refine (putText_err a len cap at' n s w (by omega) ha hn h).mono ?_
    rintro e w' ⟨rfl, rfl⟩
    exact ⟨Below.refl _ _, .inl ⟨by omega, ret_put (by omega)⟩⟩
  · refine ((putText_bad a len cap at0 n0 s w (by omega) hs0 hat).1 h1).mono ?_
    rintro e w' ⟨rfl, rfl⟩
    exact ⟨Below.refl _ _, .inl ⟨by omega, ret_put (by omega)⟩⟩
  · refine ((putText_bad a len cap at0 n0 s w (by omega) hs0 hat).2 h1 h2).mono ?_
    rintro e w' ⟨rfl, rfl⟩
    exact ⟨Below.refl _ _, .inl ⟨by omega, ret_put (by omega)⟩⟩
  · refine (putText_ok a len cap at0 n0 zs s w hr hat h1 h2).mono ?_
    rintro e w' ⟨rfl, hB, hb⟩
    exact ⟨hb, .inr ⟨he, rfl, by rw [Int.toNat_natCast, Int.toNat_natCast]; exact hB⟩⟩

end Go.Proofs.Ytmdnkkmlgjpdcaa
