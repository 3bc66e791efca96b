/- The contract of Unframe. -/
import Derived.Test.YtmdkcoenjadieaaDoorWJ24
import Derived.Test.YtmdkcoenjadieaaDoorWJ19
import Derived.OwnWalk
namespace Go.Proofs.YtmdkcoenjadieaaDoor
open Go.RowKit Go.Shelf
set_option linter.unusedVariables false
set_option maxRecDepth 100000

theorem Row.cut {n0 : Nat} {w : World} {a : Option Addr} {len cap : Nat} {zs : List Int} (h : Row n0 w a len cap zs) {l : Nat} (hl : l ≤ len) : Row n0 w (cutAt a cap l) (len - l) (cap - l) (zs.drop l) := by
  obtain ⟨h1, h2, h3, h4, h5⟩ := h
  refine ⟨by simp [h1], by omega, by omega, fun z hz => h4 z (List.mem_of_mem_drop hz), fun hp => ?_⟩
  obtain ⟨b, off, rfl, hb, hc⟩ := h5 (by omega)
  refine ⟨b, off + l, ?_, hb, fun j hj => ?_⟩
  · unfold cutAt
    rw [if_neg (by omega), Option.map_some, Nat.mul_one, World.add_zero_spot]
  · rw [Nat.add_assoc, hc (l + j) (by omega), List.getElem?_drop]

/-- A new row, filled from a slice. -/
theorem copy_new {w : World} {a2 : Option Addr} {n : Nat} {ys : List Int} (h : Has w a2 n ys) (c2 : Nat) :
    ∃ w2, (∀ ty, (Builtin.copy_ #[26, 26] ty #[.slice (some ⟨w.heap.size, 0, none⟩) n n, .slice a2 n c2]).run Tryd.prog (w.alloc (.cells (madeCells #[.int .u8 0] n) 5)) = .ok (goInt n) w2) ∧ Hid (Block w2 w.heap.size ys ∧ Below w.heap.size w w2) := by
  have hlen := h.1
  have hb0 : Below w.heap.size w (w.alloc (.cells (madeCells #[.int .u8 0] n) 5)) := (Below.refl _ w).alloc (Nat.le_refl _) _
  have hsrc : 0 < n → ∃ ad, a2 = some ad ∧ ∀ (j : Nat) v, (ys.map (Value.int .u8))[j]? = some v → (w.alloc (.cells (madeCells #[.int .u8 0] n) 5)).cell? (ad.add j) = some v := by
    intro hp
    obtain ⟨b, off, rfl, hc⟩ := h.2 hp
    refine ⟨_, rfl, fun j v hv => ?_⟩
    have hb : b < w.heap.size := cell_block_lt (hc 0 hp)
    rw [World.add_zero_spot, hb0.cell (p := ⟨b, off + j, none⟩) hb]
    have hj : j < ys.length := by
      have := (List.getElem?_eq_some_iff.1 hv).1
      simpa using this
    rw [hc j (by omega)]
    rw [List.getElem?_map, List.getElem?_eq_getElem hj] at hv
    rw [List.getElem?_eq_getElem hj]
    simpa using hv
  have hg : (w.alloc (.cells (madeCells #[.int .u8 0] n) 5)).heap[w.heap.size]? = some (.cells (List.replicate n (Value.int .u8 0)).toArray 5 (0, 0)) := by
    rw [World.alloc_heap_new, ← toList_madeCells_one, Array.toArray_toList]
  by_cases h0 : n = 0
  · subst h0
    have hz : ys = [] := List.eq_nil_of_length_eq_zero hlen
    subst hz
    exact ⟨_, fun ty => run_copy_none _ 26 26 ty 5 _ _ _ _ _ _ Tryd.underlying26 size5 rfl, hg, hb0⟩
  · obtain ⟨ad, rfl, hs⟩ := hsrc (by omega)
    refine ⟨_, fun ty => ?_, ?_, below_setRow hb0 (Nat.le_refl _) (ys.map (Value.int .u8)).toArray⟩
    · have h := run_copy_row (P := Tryd.prog) (w.alloc (.cells (madeCells #[.int .u8 0] n) 5)) 26 26 ty 5 w.heap.size 0 n n ad n c2 _ 5 (ys.map (Value.int .u8)) Tryd.underlying26 size5 hg (by rw [List.length_map, hlen]; exact (Nat.min_self _).symm) hs (by simp [hlen]) (oneCell_bytes ys)
      have e : (List.take 0 (List.replicate n (Value.int .u8 0)).toArray.toList ++ ys.map (Value.int .u8) ++ List.drop (0 + (ys.map (Value.int .u8)).length) (List.replicate n (Value.int .u8 0)).toArray.toList) = ys.map (Value.int .u8) := by
        simp [hlen]
      rw [e, List.length_map, hlen] at h
      exact h
    · exact setRow_heap _ _ _ _ 5 _ hg

/-- How many bytes the frame that begins here says that its payload has. -/
def sizeB (rs : List Int) : Nat := (num (rs.take 2)).toNat

theorem sizeB_num {rs : List Int} (h : Byts rs) (hl : 2 ≤ rs.length) : num (rs.take 2) = (sizeB rs : Int) ∧ sizeB rs ≤ 65535 := by
  have hb := num_bound (rs.take 2) (fun z hz => h z (List.mem_of_mem_take hz))
  have e : (rs.take 2).length = 2 := by simp; omega
  rw [e] at hb
  unfold sizeB
  omega

/-- Unframe's error at the bytes from the place on. -/
def restE (rs : List Int) : Int := if rs.length < 2 then 21 else if rs.length < sizeB rs + 6 then 21 else if num ((rs.drop (2 + sizeB rs)).take 4) ≠ ((sumS (rs.take (2 + sizeB rs)) : Nat) : Int) then 20 else 0

/-- Unframe's error. -/
def unE (zs : List Int) (at' : Int) : Int := if at' < 0 then 2 else if (zs.length : Int) < at' then 2 else restE (zs.drop at'.toNat)

theorem restE_cases (rs : List Int) : (rs.length < 2 ∧ restE rs = 21) ∨ (2 ≤ rs.length ∧ rs.length < sizeB rs + 6 ∧ restE rs = 21) ∨
    (sizeB rs + 6 ≤ rs.length ∧ num ((rs.drop (2 + sizeB rs)).take 4) ≠ ((sumS (rs.take (2 + sizeB rs)) : Nat) : Int) ∧ restE rs = 20) ∨
    (sizeB rs + 6 ≤ rs.length ∧ num ((rs.drop (2 + sizeB rs)).take 4) = ((sumS (rs.take (2 + sizeB rs)) : Nat) : Int) ∧ restE rs = 0) := by
  unfold restE
  by_cases h1 : rs.length < 2
  · exact .inl ⟨h1, if_pos h1⟩
  rw [if_neg h1]
  by_cases h2 : rs.length < sizeB rs + 6
  · exact .inr (.inl ⟨by omega, h2, if_pos h2⟩)
  rw [if_neg h2]
  by_cases h3 : num ((rs.drop (2 + sizeB rs)).take 4) = ((sumS (rs.take (2 + sizeB rs)) : Nat) : Int)
  · exact .inr (.inr (.inr ⟨by omega, h3, if_neg (by simpa using h3)⟩))
  · exact .inr (.inr (.inl ⟨by omega, h3, if_pos h3⟩))

/-- What Unframe answers. -/
def UnAns (w w' : World) (e : Ending) (at' : Int) (rs : List Int) (q : Int) : Prop :=
  (q ≠ 0 ∧ e = .returned (.tuple #[.slice none 0 0, .int .i64 0, .int .i64 q])) ∨
  (q = 0 ∧ ∃ a' c', e = .returned (.tuple #[.slice a' (sizeB rs) c', .int .i64 (at' + (sizeB rs : Int) + 6), .int .i64 0]) ∧ Own w.heap.size w' a' (sizeB rs) c' ((rs.drop 2).take (sizeB rs)))

theorem ret_three {v : Value} {b c : Int} (h : b = c) {q : Int} : Ending.returned (.tuple #[v, .int .i64 b, .int .i64 q]) = .returned (.tuple #[v, .int .i64 c, .int .i64 q]) := by rw [h]

set_option maxHeartbeats 1000000 in
theorem unframe_out (a : Option Addr) (len cap : Nat) (at' : Int) (w : World) (h : at' < 0 ∨ (len : Int) < at') (hl : len ≤ 140737488351232) :
    Calls Tryd.prog 60 #[.slice a len cap, .int .i64 at'] w fun e w' => e = .returned (.tuple #[.slice none 0 0, .int .i64 0, .int .i64 2]) ∧ w = w' := by
  by_cases h1 : at' < 0
  · clear h
    go_enter Tryd.func60, Tryd.ntmps60
    go_wp2
    go_ret3
    exact ⟨rfl, rfl⟩
  · have h2 : (len : Int) < at' := by omega
    clear h
    go_enter Tryd.func60, Tryd.ntmps60
    go_wp2
    go_ret3
    exact ⟨rfl, rfl⟩

theorem Below.chain {n : Nat} {w w1 w2 : World} (h1 : Below n w w1) (h2 : Below w1.heap.size w1 w2) (hn : n ≤ w.heap.size) : Below n w w2 := h1.trans (h2.mono (by have := h1.size; omega))

set_option maxHeartbeats 2000000 in
theorem unframe_in (a : Option Addr) (len cap : Nat) (zs : List Int) (at0 : Nat) (w : World) (hr : Row w.heap.size w a len cap zs) (hT : Tab w) (hat : at0 ≤ len) :
    Calls Tryd.prog 60 #[.slice a len cap, .int .i64 (at0 : Int)] w fun e w' => UnAns w w' e at0 (zs.drop at0) (restE (zs.drop at0)) ∧ Below w.heap.size w w' := by
  have hlen := hr.1
  have hl := hr.2.2.1.1
  have hcutr : ∀ w, (Instr.slice 26 (.slice a len cap) (some (.int .i64 (at0 : Int))) none none).run Tryd.prog w = .ok (.slice (cutAt a cap at0) (len - at0) (cap - at0)) w := fun w => run_cut_l a len cap at0 hat w
  have hR := hr.cut hat
  have hrl : (zs.drop at0).length = len - at0 := by simp [hlen]
  generalize cutAt a cap at0 = ra at *
  generalize cap - at0 = rc at *
  generalize zs.drop at0 = rs at *
  have hrl' : len - at0 ≤ 140737488351232 := by omega
  generalize hrr : len - at0 = rl at *
  have hby := hR.byts
  have hTs := tab_size hT
  have KG : Hid (∀ (p n : Int) w1, p ≤ 9223372036854775807 → Below w.heap.size w w1 → Calls Tryd.prog 79 #[.slice ra rl rc, .int .i64 p, .int .i64 n] w1 fun e w' => e = .returned (.tuple #[.int .i64 (getVal rs p n), .int .i64 (numErr rl p n)]) ∧ Below w.heap.size w w') := by
    intro p n w1 hp hb
    refine (get_any ra rl rc rs p n w1 (hR.below hb hb.size) hp).mono ?_
    rintro e w' ⟨rfl, hb'⟩
    exact ⟨rfl, Below.chain hb hb' (Nat.le_refl _)⟩
  have hd1 : decide ((len : Int) < (at0 : Int)) = false := by simp; omega
  rcases restE_cases rs with ⟨h1, hq⟩ | ⟨h1, h2, hq⟩ | ⟨h2, h3, hq⟩ | ⟨h2, h3, hq⟩
  · have hE : numErr rl 0 2 = 2 := by
      unfold numErr
      rw [if_neg (by omega), if_pos rfl]
      exact partErr_far (by omega) (by omega) (by omega)
    have K1 := unhide KG 0 2 w (by omega) (Below.refl _ _)
    rw [hE] at K1
    have K1' := hide K1
    generalize getVal rs 0 2 = V1 at *
    rw [hq]
    clear hr hR hby hT KG K1 hE hq hrl
    go_enter Tryd.func60, Tryd.ntmps60
    go_wp2_with (go_at_call 79; refine (unhide K1').mono ?_; rintro e w1 ⟨rfl, hb1⟩)
    go_ret3
    exact ⟨.inl ⟨by omega, rfl⟩, hb1⟩
  · have hsz := sizeB_num hby h1
    have hE : numErr rl 0 2 = 0 := by
      have := numErr_ok (len := rl) (at0 := 0) (wd := 2) (by omega) (by omega)
      exact this
    have hV : getVal rs 0 2 = (sizeB rs : Int) := by
      unfold getVal
      rw [hrl, if_pos hE]
      exact hsz.1
    have hE2 : numErr rl (2 + (sizeB rs : Int)) 4 = 2 := by
      unfold numErr
      rw [if_neg (by omega), if_neg (by omega), if_pos rfl]
      exact partErr_far (by omega) (by omega) (by omega)
    have K1 := unhide KG 0 2 w (by omega) (Below.refl _ _)
    rw [hE, hV] at K1
    have K1' := hide K1
    have K2 := fun w1 hb => unhide KG (2 + (sizeB rs : Int)) 4 w1 (by omega) hb
    rw [hE2] at K2
    have K2' := hide K2
    generalize getVal rs (2 + (sizeB rs : Int)) 4 = V2 at *
    rw [hq]
    have hs2 := hsz.2
    generalize sizeB rs = n at *
    clear hr hR hby hT KG K1 K2 hE hE2 hV hq hrl hsz
    go_enter Tryd.func60, Tryd.ntmps60
    go_wp2_with fail
    go_at_call 79
    refine (unhide K1').mono ?_
    rintro e w1 ⟨rfl, hb1⟩
    go_wp2_with fail
    go_at_call 79
    refine (unhide K2' _ hb1).mono ?_
    rintro e w2 ⟨rfl, hb2⟩
    go_wp2_with fail
    go_ret3
    exact ⟨.inl ⟨by omega, rfl⟩, hb2⟩
  all_goals
    have hsz := sizeB_num hby (by omega)
    have hE : numErr rl 0 2 = 0 := by
      have := numErr_ok (len := rl) (at0 := 0) (wd := 2) (by omega) (by omega)
      exact this
    have hV : getVal rs 0 2 = (sizeB rs : Int) := by
      unfold getVal
      rw [hrl, if_pos hE]
      exact hsz.1
    have hE2 : numErr rl (2 + (sizeB rs : Int)) 4 = 0 := by
      have := numErr_ok (len := rl) (at0 := 2 + sizeB rs) (wd := 4) (by omega) (by omega)
      rw [show ((2 + sizeB rs : Nat) : Int) = 2 + (sizeB rs : Int) by omega] at this
      exact this
    have hV2 : getVal rs (2 + (sizeB rs : Int)) 4 = num ((rs.drop (2 + sizeB rs)).take 4) := by
      unfold getVal
      rw [hrl, if_pos hE2, show (2 + (sizeB rs : Int)).toNat = 2 + sizeB rs by omega]
      rfl
    have K1 := unhide KG 0 2 w (by omega) (Below.refl _ _)
    rw [hE, hV] at K1
    have K1' := hide K1
    have K2 := fun w1 hb => unhide KG (2 + (sizeB rs : Int)) 4 w1 (by omega) hb
    rw [hE2, hV2] at K2
    have K2' := hide K2
    have hrlc := hR.2.1
    have hcs : ∀ w, (Instr.slice 26 (.slice ra rl rc) none (some (.int .i64 (2 + (sizeB rs : Int)))) none).run Tryd.prog w = .ok (.slice (cutAt ra rc 0) (2 + sizeB rs) rc) w := by
      intro w
      have := run_cut_h ra rl rc (2 + sizeB rs) (by omega) w
      rwa [show ((2 + sizeB rs : Nat) : Int) = 2 + (sizeB rs : Int) by omega] at this
    have hcp : ∀ w, (Instr.slice 26 (.slice ra rl rc) (some (.int .i64 2)) (some (.int .i64 (2 + (sizeB rs : Int)))) none).run Tryd.prog w = .ok (.slice (cutAt ra rc 2) (sizeB rs) (rc - 2)) w := by
      intro w
      exact run_cut_lh ra rl rc 2 (sizeB rs) (by omega) w
    have KS : Hid (∀ w1, Below w.heap.size w w1 → Calls Tryd.prog 54 #[.slice (cutAt ra rc 0) (2 + sizeB rs) rc] w1 fun e w' => e = .returned (.int .i64 ((sumS (rs.take (2 + sizeB rs)) : Nat) : Int)) ∧ w1 = w') := by
      intro w1 hb
      have hh := (hR.below hb hb.size).has.cut (l := 0) (k := 2 + sizeB rs) hrlc (by omega)
      rw [List.drop_zero] at hh
      exact sum_any _ _ _ _ w1 (hT.below hb hTs) hh (by omega) (fun z hz => hby z (List.mem_of_mem_take hz))
    have KC : Hid (∀ w1, Below w.heap.size w w1 → ∃ w2, (∀ ty, (Builtin.copy_ #[26, 26] ty #[.slice (some ⟨w1.heap.size, 0, none⟩) (sizeB rs) (sizeB rs), .slice (cutAt ra rc 2) (sizeB rs) (rc - 2)]).run Tryd.prog (w1.alloc (.cells (madeCells #[.int .u8 0] (sizeB rs)) 5)) = .ok (goInt (sizeB rs)) w2) ∧ Hid (Block w2 w1.heap.size ((rs.drop 2).take (sizeB rs)) ∧ Below w1.heap.size w1 w2)) := by
      intro w1 hb
      exact copy_new ((hR.below hb hb.size).has.cut (l := 2) (k := sizeB rs) hrlc (by omega)) _
    have hmk := run_make_row' (P := Tryd.prog) 26 5 (.int .u8 0) 1 Tryd.underlying26 info5 rfl .i64 .i64 (sizeB rs) (by omega) (by omega)
    rw [hq]
    have hs2 := hsz.2
    have hll : ((rs.drop 2).take (sizeB rs)).length = sizeB rs := by simp; omega
    generalize cutAt ra rc 0 = sa at *
    generalize cutAt ra rc 2 = pa at *
    generalize rc - 2 = pc at *
    generalize num ((rs.drop (2 + sizeB rs)).take 4) = X at *
    generalize sumS (rs.take (2 + sizeB rs)) = S at *
  · have hne : (X != (S : Int)) = true := by simpa using h3
    unfold UnAns
    generalize (rs.drop 2).take (sizeB rs) = pay at *
    generalize sizeB rs = n at *
    clear hr hR hby hT KG K1 K2 hE hE2 hV hV2 hq hrl hsz h3 KC hll
    go_enter Tryd.func60, Tryd.ntmps60
    go_wp2_with fail
    go_at_call 79
    refine (unhide K1').mono ?_
    rintro e w1 ⟨rfl, hb1⟩
    go_wp2_with fail
    go_at_call 79
    refine (unhide K2' _ hb1).mono ?_
    rintro e w2 ⟨rfl, hb2⟩
    go_wp2_with (go_at_call 54; refine (unhide KS _ hb2).mono ?_; rintro e w3 ⟨rfl, rfl⟩)
    go_ret3
    exact ⟨.inl ⟨by omega, rfl⟩, hb2⟩
  · subst h3
    unfold UnAns
    generalize (rs.drop 2).take (sizeB rs) = pay at *
    generalize sizeB rs = n at *
    clear hr hR hby hT KG K1 K2 hE hE2 hV hV2 hq hrl hsz
    go_enter Tryd.func60, Tryd.ntmps60
    go_wp2_with fail
    go_at_call 79
    refine (unhide K1').mono ?_
    rintro e w1 ⟨rfl, hb1⟩
    go_wp2_with fail
    go_at_call 79
    refine (unhide K2' _ hb1).mono ?_
    rintro e w2 ⟨rfl, hb2⟩
    obtain ⟨w4, hcopy, h4⟩ := unhide KC w2 hb2
    go_wp2_with (go_at_call 54; refine (unhide KS _ hb2).mono ?_; rintro e w3 ⟨rfl, rfl⟩)
    go_ret3
    have hz := hb2.size
    exact ⟨.inr ⟨by trivial, _, _, ret_three (by omega), (unhide h4).1.own hll hz (by omega)⟩, Below.chain hb2 (unhide h4).2 (Nat.le_refl _)⟩

/-- **Unframe.** -/
theorem unframe_any (a : Option Addr) (len cap : Nat) (zs : List Int) (at' : Int) (w : World) (hr : Row w.heap.size w a len cap zs) (hT : Tab w) :
    Calls Tryd.prog 60 #[.slice a len cap, .int .i64 at'] w fun e w' => UnAns w w' e at' (zs.drop at'.toNat) (unE zs at') ∧ Below w.heap.size w w' := by
  have hlen := hr.1
  unfold unE
  by_cases h1 : at' < 0
  · rw [if_pos h1]
    refine (unframe_out a len cap at' w (.inl h1) hr.2.2.1.1).mono ?_
    rintro e w' ⟨rfl, rfl⟩
    exact ⟨.inl ⟨by omega, rfl⟩, Below.refl _ _⟩
  rw [if_neg h1]
  by_cases h2 : (zs.length : Int) < at'
  · rw [if_pos h2]
    refine (unframe_out a len cap at' w (.inr (by omega)) hr.2.2.1.1).mono ?_
    rintro e w' ⟨rfl, rfl⟩
    exact ⟨.inl ⟨by omega, rfl⟩, Below.refl _ _⟩
  rw [if_neg h2]
  obtain ⟨at0, rfl⟩ := Int.eq_ofNat_of_zero_le (by omega : 0 ≤ at')
  rw [Int.toNat_natCast]
  exact unframe_in a len cap zs at0 w hr hT (by omega)

end Go.Proofs.YtmdkcoenjadieaaDoor
