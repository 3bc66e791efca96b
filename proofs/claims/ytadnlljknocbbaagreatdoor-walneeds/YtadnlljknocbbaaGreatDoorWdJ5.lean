/- Joined: CLay, GInts. -/
import Derived.Test.YtadnlljknocbbaaGreatDoorWdJ4
import Derived.Test.YtadnlljknocbbaaGreatDoorWdJ3
/- Contract of codec.lay. -/
namespace Go.Proofs.YtadnlljknocbbaaGreatDoor
open Go.RowKit Go.Shelf
set_option linter.unusedVariables false

theorem make_blockC (w : World) (n : Nat) : Block (w.alloc (.cells (madeCells #[.int .u8 0] n) 5)) w.heap.size (List.replicate n 0) := by
  show (w.alloc _).heap[w.heap.size]? = _
  rw [World.alloc_heap_new, List.map_replicate, ← toList_madeCells_one, Array.toArray_toList]

/-- copy(out[at:], part), where the part has room. -/
theorem copy_at {w : World} {g size at0 : Nat} {xs : List Int} (hB : Block w g xs) (hx : xs.length = size) {a2 : Option Addr} {n : Nat} {ys : List Int} (h : Has w a2 n ys) (c2 : Nat) (hfit : at0 + n ≤ size) :
    ∃ w2, (∀ ty, (Builtin.copy_ #[50, 50] ty #[.slice (cutAt (some ⟨g, 0, none⟩) size at0) (size - at0) (size - at0), .slice a2 n c2]).run Tryz.prog w = .ok (goInt n) w2) ∧ Block w2 g (put xs at0 ys) ∧ ∀ B, B ≤ g → Below B w w2 := by
  have hlen := h.1
  by_cases h0 : n = 0
  · subst h0
    obtain rfl : ys = [] := List.eq_nil_of_length_eq_zero hlen
    refine ⟨w, fun ty => run_copy_none _ 50 50 ty 5 _ _ _ _ _ _ Tryz.underlying50 size5 (Nat.min_eq_left (Nat.zero_le _)), ?_, fun B _ => Below.refl _ _⟩
    have : put xs at0 [] = xs := by simp [put]
    rw [this]; exact hB
  · obtain ⟨b, off, rfl, hc⟩ := h.2 (by omega)
    have hcut : cutAt (some ⟨g, 0, none⟩) size at0 = some ⟨g, at0, none⟩ := by
      unfold cutAt
      rw [if_neg (by omega), Option.map_some, Nat.mul_one, World.add_zero_spot, Nat.zero_add]
    have hs : ∀ (j : Nat) v, (ys.map (Value.int .u8))[j]? = some v → w.cell? ((⟨b, off, none⟩ : Addr).add j) = some v := by
      intro j v hv
      have hj : j < ys.length := by
        have := (List.getElem?_eq_some_iff.1 hv).1
        simpa using this
      rw [World.add_zero_spot, hc j (by omega)]
      rw [List.getElem?_map, List.getElem?_eq_getElem hj] at hv
      rw [List.getElem?_eq_getElem hj]
      simpa using hv
    have hm : (ys.map (Value.int .u8)).length = Nat.min n (size - at0) := by rw [List.length_map, hlen]; exact (Nat.min_eq_left (by omega)).symm
    have hp : ((xs.map (Value.int .u8)).take at0 ++ ys.map (Value.int .u8) ++ (xs.map (Value.int .u8)).drop (at0 + (ys.map (Value.int .u8)).length)) = (put xs at0 ys).map (Value.int .u8) := by
      simp [put, List.map_take, List.map_drop]
    refine ⟨w.setRow g ((put xs at0 ys).map (Value.int .u8)).toArray, fun ty => ?_, setRow_heap w g _ _ 5 _ hB, fun B hBg => below_setRow (Below.refl _ _) hBg _⟩
    have hr := run_copy_row (P := Tryz.prog) w 50 50 ty 5 g at0 (size - at0) (size - at0) ⟨b, off, none⟩ n c2 _ 5 (ys.map (Value.int .u8)) Tryz.underlying50 size5 hB hm hs (by simp [hlen, hx]; omega) (oneCell_bytes ys)
    rw [List.toList_toArray, hp, List.length_map, hlen] at hr
    rw [hcut]
    exact hr

/-- So many bytes: these ones, and bytes 0 behind them. -/
def layB (size : Nat) (L : List Int) : List Int := L ++ List.replicate (size - L.length) 0

theorem length_layB {size : Nat} {L : List Int} (h : L.length ≤ size) : (layB size L).length = size := by simp [layB]; omega

theorem layB_put (size : Nat) (L z : List Int) (h : L.length + z.length ≤ size) : put (layB size L) L.length z = layB size (L ++ z) := by
  simp only [put, layB, List.take_left, List.length_append]
  have e1 : (L ++ List.replicate (size - L.length) 0).drop (L.length + z.length) = List.replicate (size - (L.length + z.length)) (0 : Int) := by
    rw [List.drop_append, List.drop_of_length_le (by omega), List.nil_append, List.drop_replicate]
    congr 1; omega
  rw [e1]

theorem layB_byte (size : Nat) (L : List Int) (h : ∀ z ∈ L, 0 ≤ z ∧ z ≤ 255) : ∀ z ∈ layB size L, 0 ≤ z ∧ z ≤ 255 := by
  intro z hz
  rcases List.mem_append.1 hz with hz | hz
  · exact h z hz
  · simp at hz; omega

/-- A part: its slice, and the bytes that it has. -/
abbrev Prt := Option Addr × Nat × Nat × List Int

abbrev pv (p : Prt) : Value := .slice p.1 p.2.1 p.2.2.1

/-- A slice has these parts. -/
def PHas (w : World) (a : Option Addr) (n : Nat) (ps : List Prt) : Prop :=
  ps.length = n ∧ (0 < n → ∃ b off, a = some ⟨b, off, none⟩ ∧ b < w.heap.size ∧ ∀ j, (hj : j < ps.length) → w.cell? ⟨b, off + j, none⟩ = some (pv ps[j])) ∧ ∀ p ∈ ps, Has w p.1 p.2.1 p.2.2.2

theorem Has.lt {w : World} {a : Option Addr} {len : Nat} {zs : List Int} (h : Has w a len zs) {b off : Nat} (hp : 0 < len) (e : a = some ⟨b, off, none⟩) : b < w.heap.size := by
  obtain ⟨b', off', e', hc⟩ := h.2 hp
  rw [e] at e'
  cases e'
  exact cell_block_lt (hc 0 hp)

theorem Has.later {w w' : World} {a : Option Addr} {len : Nat} {zs : List Int} (h : Has w a len zs) (hb : Below w.heap.size w w') : Has w' a len zs := by
  refine ⟨h.1, fun hp => ?_⟩
  obtain ⟨b, off, e, hc⟩ := h.2 hp
  exact ⟨b, off, e, fun j hj => (hb.cell (p := ⟨b, off + j, none⟩) (h.lt hp e)).trans (hc j hj)⟩

theorem PHas.later {w w' : World} {a : Option Addr} {n : Nat} {ps : List Prt} (h : PHas w a n ps) (hb : Below w.heap.size w w') : PHas w' a n ps := by
  obtain ⟨h1, h2, h3⟩ := h
  refine ⟨h1, fun hp => ?_, fun p hp => (h3 p hp).later hb⟩
  obtain ⟨b, off, e, hlt, hc⟩ := h2 hp
  exact ⟨b, off, e, Nat.lt_of_lt_of_le hlt hb.size, fun j hj => (hb.cell (p := ⟨b, off + j, none⟩) hlt).trans (hc j hj)⟩

/-- The parts' bytes, one behind the other. -/
def allP (ps : List Prt) : List Int := (ps.map (fun p => p.2.2.2)).flatten

theorem allP_succ (ps : List Prt) (k : Nat) (hk : k < ps.length) : allP (ps.take (k + 1)) = allP (ps.take k) ++ ps[k].2.2.2 := by
  rw [allP, List.take_succ_eq_append_getElem hk, List.map_append, List.flatten_append]
  simp only [allP, List.map_cons, List.map_nil, List.flatten_cons, List.flatten_nil, List.append_nil]

theorem allP_take_le (ps : List Prt) (k : Nat) : (allP (ps.take k)).length ≤ (allP ps).length := by
  have : allP ps = allP (ps.take k) ++ allP (ps.drop k) := by
    simp only [allP]
    rw [← List.flatten_append, ← List.map_append, List.take_append_drop]
  rw [this, List.length_append]; omega

set_option maxRecDepth 100000 in
set_option maxHeartbeats 2000000 in
/-- **codec.lay**: where the parts have room, they stand one behind the other, and bytes 0 behind them. -/
theorem clay_any (size : Nat) (a : Option Addr) (n cap : Nat) (ps : List Prt) (w : World) (h : PHas w a n ps) (hn : n ≤ 1000) (hs : (allP ps).length ≤ size) (hsz : size ≤ 140737488351300) :
    Calls Tryz.prog 136 #[.int .i64 (size : Int), .slice a n cap] w fun e w' => e = .returned (.slice (some ⟨w.heap.size, 0, none⟩) size size) ∧ Hid (Block w' w.heap.size (layB size (allP ps))) ∧ Below w.heap.size w w' := by
  have hmk := run_make_row' (P := Tryz.prog) 50 5 (.int .u8 0) 1 Tryz.underlying50 info5 rfl .i64 .i64 size (by omega) (by omega)
  have hb0 : Below w.heap.size w (w.alloc (.cells (madeCells #[.int .u8 0] size) 5)) := (Below.refl _ w).alloc (Nat.le_refl _) _
  have HB : Hid (Block (w.alloc (.cells (madeCells #[.int .u8 0] size) 5)) w.heap.size (layB size (allP (ps.take 0)))) := by
    have h0 : layB size (allP (ps.take 0)) = List.replicate size 0 := by simp [layB, allP]
    rw [h0]
    exact make_blockC w size
  have H := hide h
  have HS := hide hs
  have hlen := h.1
  clear h hs
  go_enter Tryz.func136, Tryz.ntmps136
  go_wp2
  go_loopw [6, 13] (fun at' i wr => ∃ k at0 : Nat, k ≤ n ∧ i = .int .i64 (k : Int) ∧ at' = .int .i64 (at0 : Int) ∧ at0 ≤ size ∧ Hid (at0 = (allP (ps.take k)).length) ∧ Hid (Block wr w.heap.size (layB size (allP (ps.take k)))) ∧ Hid (Below w.heap.size w wr)) (fun _ i _ => n - (intOf i).toNat)
  case atStart => exact ⟨0, 0, Nat.zero_le _, rfl, rfl, Nat.zero_le _, rfl, HB, hb0⟩
  case round =>
    obtain ⟨k, at0, hk, rfl, rfl, hat, he, hBk, hbk⟩ := hrel
    clear HB hmk hb0
    by_cases hlt : k < n
    · obtain ⟨b, off, rfl, _, hc⟩ := (H.out.later hbk.out).2.1 (by omega)
      have hck := hc k (by omega)
      have hHas := (H.out.later hbk.out).2.2 ps[k] (List.getElem_mem _)
      have hsu := allP_succ ps k (by omega)
      have hle := allP_take_le ps (k + 1)
      generalize ps[k] = pp at *
      obtain ⟨pa, pn, pc, pz⟩ := pp
      dsimp only [pv] at hck hHas hsu
      rw [hsu, List.length_append] at hle
      have hroom : at0 + pn ≤ size := by have := he.out; have := HS.out; have := hHas.1; omega
      obtain ⟨w2, hr, hB2, hb2⟩ := copy_at hBk.out (length_layB (by have := he.out; have := HS.out; omega)) hHas pc hroom
      have HP : Hid (Block w2 w.heap.size (layB size (allP (ps.take (k + 1)))) ∧ Hid (Below w.heap.size w w2) ∧ at0 + pn = (allP (ps.take (k + 1))).length) := by
        have := he.out
        subst this
        refine ⟨?_, hbk.out.trans (hb2 _ (Nat.le_refl _)), by rw [hsu, List.length_append, hHas.1]⟩
        rw [hsu, ← layB_put size _ _ (by have := HS.out; omega)]
        exact hB2
      have hcut := run_cut_l (some ⟨w.heap.size, 0, none⟩) size size at0 hat
      generalize cutAt (some ⟨w.heap.size, 0, none⟩) size at0 = ca at *
      generalize hd : size - at0 = d at *
      clear hc hHas hsu hle hB2 hb2 he hBk hbk HS
      have hpn : (pn : Int) ≤ 140737488351300 := by omega
      go_wp2
      exact ⟨⟨k + 1, at0 + pn, by omega, by go_num, by go_num, by omega, HP.out.2.2, HP.out.1, HP.out.2.1⟩, by simp [intOf]; omega⟩
    · obtain rfl : k = n := by omega
      have e : ps.take k = ps := List.take_of_length_le (by omega)
      rw [e] at hBk
      go_wp2
      go_ret
      exact ⟨rfl, hBk, hbk.out⟩

end Go.Proofs.YtadnlljknocbbaaGreatDoor

/- Slices of numbers: append([]int{}, x...), and the contract of skerryref01.SameInts. -/
namespace Go.Proofs.YtadnlljknocbbaaGreatDoor
open Go.RowKit Go.Shelf
set_option linter.unusedVariables false
set_option maxRecDepth 100000

theorem info3 : (Tryz.prog.info? 3).map (fun i => (i.zero, i.size, i.bytes)) = some (some (.int .i64 0), 1, 8) := by kernel_rfl

theorem oneCell_ints (zs : List Int) : ∀ v ∈ zs.map (Value.int .i64), v.oneCell' = true := by
  intro v hv
  simp only [List.mem_map] at hv
  obtain ⟨z, _, rfl⟩ := hv
  rfl

theorem ihas_of_row {w : World} {base : Nat} {v : Value} {n : Nat} {ns : List Int} (h : w.ownsRow base 3 1 v n (ns.map (Value.int .i64))) : ∃ a c, v = .slice a n c ∧ IHas w a n ns := by
  obtain ⟨h1, h2⟩ := h
  have hl : ns.length = n := by simpa using h1
  rcases h2 with ⟨rfl, rfl⟩ | ⟨g, cap, cur, rfl, hg, hh, h2, h3, hc, ht⟩
  · exact ⟨none, 0, rfl, hl, fun h => by omega⟩
  · refine ⟨_, cap, rfl, hl, fun hp => ⟨g, 0, rfl, fun j hj => ?_⟩⟩
    rw [Nat.zero_add]
    have ht' : cur.toList.take n = ns.map (Value.int .i64) := by simpa using ht
    have hx : (cur.toList.take n)[j]? = some (.int .i64 (ns[j]?.getD 0)) := by
      rw [ht', List.getElem?_map, List.getElem?_eq_getElem (by omega)]; rfl
    rw [List.getElem?_take_of_lt hj] at hx
    simp only [World.cell?, hh]
    simpa using hx

/-- append([]int{}, x...). -/
theorem app_ints {w : World} {a : Option Addr} {n c : Nat} {ns : List Int} (h : IHas w a n ns) (hn : n ≤ 17592186043904) :
    ∃ a1 c1 w1, (∀ ty, (Builtin.append_ #[40, 40] ty #[.slice (some ⟨w.heap.size, 0, none⟩) 0 0, .slice a n c]).run Tryz.prog (w.alloc (.cells #[] 3)) = .ok (.slice a1 n c1) w1) ∧ IHas w1 a1 n ns ∧ Below w.heap.size w w1 := by
  obtain ⟨i0, hi, hz0, hz1, hz2⟩ := info_parts info3
  have hb0 : Below w.heap.size w (w.alloc (.cells #[] 3)) := (Below.refl _ w).alloc (Nat.le_refl _) _
  by_cases h0 : n = 0
  · subst h0
    obtain rfl : ns = [] := List.eq_nil_of_length_eq_zero h.1
    refine ⟨some ⟨w.heap.size, 0, none⟩, 0, _, fun ty => ?_, ⟨rfl, fun h => by omega⟩, hb0⟩
    cases a <;> simp [Builtin.append_, run_underlying Tryz.underlying40, sizeOf, typeInfo, hi, Builtin.lenOf, Builtin.firstCells, storeCells, loadCells, loadCellsFrom]
  · obtain ⟨b, off, rfl, hc⟩ := (h.later hb0).2 (by omega)
    have hl := h.1
    have hnews : ∀ (j : Nat) (u : Value), (ns.map (Value.int .i64))[j]? = some u → (w.alloc (.cells #[] 3)).cell? ((⟨b, off, none⟩ : Addr).add j) = some u := by
      intro j u hj
      have hjl : j < n := by have := (List.getElem?_eq_some_iff.1 hj).1; simp at this; omega
      rw [World.add_zero_spot, hc j hjl]
      rw [List.getElem?_map, List.getElem?_eq_getElem (by omega)] at hj
      rw [List.getElem?_eq_getElem (by omega)]
      simpa using hj
    have hown : (w.alloc (.cells #[] 3)).ownsRow w.heap.size 3 1 (.slice (some ⟨w.heap.size, 0, none⟩) 0 0) 0 [] :=
      ⟨rfl, .inr ⟨w.heap.size, 0, #[], rfl, Nat.le_refl _, World.alloc_heap_new w _, Nat.le_refl _, by unfold maxLen; omega, rfl, rfl⟩⟩
    obtain ⟨v', w', hr, ho, hg, _⟩ := run_append_own (P := Tryz.prog) (w.alloc (.cells #[] 3)) w.heap.size 40 0 3 i0 (.int .i64 0) 1 8 Tryz.underlying40 hi hz0 hz1 hz2 rfl (by decide) (.slice (some ⟨w.heap.size, 0, none⟩) 0 0) 0 [] hown ⟨b, off, none⟩ n c (ns.map (Value.int .i64)) (by simp [hl]) hnews (oneCell_ints ns) (by unfold maxLen; omega) (by omega) (by simp)
    rw [Nat.zero_add, List.nil_append] at ho
    obtain ⟨a', c', rfl, hI⟩ := ihas_of_row ho
    exact ⟨a', c', w', fun ty => hr, hI, hb0.grown hg (by simp) (fun k e => by simp [Value.ownBlock] at e; omega)⟩

set_option maxHeartbeats 1000000 in
theorem sameInts_any (a1 a2 : Option Addr) (len c1 c2 : Nat) (ns : List Int) (w : World) (h1 : IHas w a1 len ns) (h2 : IHas w a2 len ns) (hl : len ≤ 140737488351232) :
    Calls Tryz.prog 77 #[.slice a1 len c1, .slice a2 len c2] w fun e w' => e = .returned (.bool true) ∧ ∃ m, w' = w.drewN m := by
  have H1 := hide h1
  have H2 := hide h2
  clear h1 h2
  go_enter Tryz.func77, Tryz.ntmps77
  go_wp2
  go_loopw [5] (fun i wr => ∃ k : Nat, k ≤ len ∧ i = .int .i64 (k : Int) ∧ Hid (∃ m, wr = w.drewN m)) (fun i _ => len - (intOf i).toNat)
  case atStart => exact ⟨0, Nat.zero_le _, rfl, 0, rfl⟩
  case round =>
    obtain ⟨k, hk, rfl, hw⟩ := hrel
    by_cases hlt : k < len
    · obtain ⟨b1, o1, rfl, hc1⟩ := H1.out.2 (by omega)
      obtain ⟨b2, o2, rfl, hc2⟩ := H2.out.2 (by omega)
      have e1 : wr.cell? ⟨b1, o1 + k, none⟩ = some (.int .i64 (ns[k]?.getD 0)) := by obtain ⟨m, rfl⟩ := hw.out; exact hc1 k hlt
      have e2 : wr.cell? ⟨b2, o2 + k, none⟩ = some (.int .i64 (ns[k]?.getD 0)) := by obtain ⟨m, rfl⟩ := hw.out; exact hc2 k hlt
      generalize ns[k]?.getD 0 = z at *
      have hlt' : (k : Int) < (len : Int) := by omega
      clear hc1 hc2 hlt
      go_wp2
      go_quiet (fail)
      go_wp2
      refine ⟨⟨k + 1, by omega, by go_num, ?_⟩, by simp [intOf]; omega⟩
      obtain ⟨m, rfl⟩ := hw.out
      exact ⟨_, World.drewN_drewN _ _ _⟩
    · obtain rfl : k = len := by omega
      go_wp2
      go_ret
      exact ⟨rfl, hw.out⟩

end Go.Proofs.YtadnlljknocbbaaGreatDoor

