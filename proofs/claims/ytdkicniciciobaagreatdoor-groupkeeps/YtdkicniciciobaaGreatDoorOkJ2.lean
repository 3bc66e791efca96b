/- Joined: CLay, GInts, GApartI, GApartK, GMore. -/
import Derived.Test.YtdkicniciciobaaGreatDoorOkJ1
/- Contract of codec.lay. -/
namespace Go.Proofs.YtdkicniciciobaaGreatDoor
open Go.RowKit Go.Shelf
set_option linter.unusedVariables false

theorem make_blockC (w : World) (n : Nat) : Block (w.alloc (.cells (madeCells #[.int .u8 0] n) 5)) w.heap.size (List.replicate n 0) := by
  show (w.alloc _).heap[w.heap.size]? = _
  rw [World.alloc_heap_new, List.map_replicate, ← toList_madeCells_one, Array.toArray_toList]

theorem copy_at {w : World} {g size at0 : Nat} {xs : List Int} (hB : Block w g xs) (hx : xs.length = size) {a2 : Option Addr} {n : Nat} {ys : List Int} (h : Has w a2 n ys) (c2 : Nat) (hfit : at0 + n ≤ size) :
    ∃ w2, (∀ ty, (Builtin.copy_ #[49, 49] ty #[.slice (cutAt (some ⟨g, 0, none⟩) size at0) (size - at0) (size - at0), .slice a2 n c2]).run Tryz.prog w = .ok (goInt n) w2) ∧ Block w2 g (put xs at0 ys) ∧ ∀ B, B ≤ g → Below B w w2 := by
  have hlen := h.1
  by_cases h0 : n = 0
  · subst h0
    obtain rfl : ys = [] := List.eq_nil_of_length_eq_zero hlen
    refine ⟨w, fun ty => run_copy_none _ 49 49 ty 5 _ _ _ _ _ _ Tryz.underlying49 size5 (Nat.min_eq_left (Nat.zero_le _)), ?_, fun B _ => Below.refl _ _⟩
    have : put xs at0 [] = xs := by simp [put]
    rw [this]; exact hB
  · obtain ⟨b, off, rfl, hc⟩ := h.2 (by omega)
    have hcut : cutAt (some ⟨g, 0, none⟩) size at0 = some ⟨g, at0, none⟩ := by
      unfold cutAt
      rw [if_neg (by omega), Option.map_some, Nat.mul_one, World.add_zero_spot, Nat.zero_add]
    have hs : ∀ (j : Nat) v, (ys.map (Value.int .u8))[j]? = some v → w.cell? ((⟨b, off, none⟩ : Addr).add j) = some v := by
      intro j v hv
      have hj : j < ys.length := by
        have := (List.getElem?_eq_some_iff.1 hv).1
        simpa using this
      rw [World.add_zero_spot, hc j (by omega)]
      rw [List.getElem?_map, List.getElem?_eq_getElem hj] at hv
      rw [List.getElem?_eq_getElem hj]
      simpa using hv
    have hm : (ys.map (Value.int .u8)).length = Nat.min n (size - at0) := by rw [List.length_map, hlen]; exact (Nat.min_eq_left (by omega)).symm
    have hp : ((xs.map (Value.int .u8)).take at0 ++ ys.map (Value.int .u8) ++ (xs.map (Value.int .u8)).drop (at0 + (ys.map (Value.int .u8)).length)) = (put xs at0 ys).map (Value.int .u8) := by
      simp [put, List.map_take, List.map_drop]
    refine ⟨w.setRow g ((put xs at0 ys).map (Value.int .u8)).toArray, fun ty => ?_, setRow_heap w g _ _ 5 _ hB, fun B hBg => below_setRow (Below.refl _ _) hBg _⟩
    have hr := run_copy_row (P := Tryz.prog) w 49 49 ty 5 g at0 (size - at0) (size - at0) ⟨b, off, none⟩ n c2 _ 5 (ys.map (Value.int .u8)) Tryz.underlying49 size5 hB hm hs (by simp [hlen, hx]; omega) (oneCell_bytes ys)
    rw [List.toList_toArray, hp, List.length_map, hlen] at hr
    rw [hcut]
    exact hr

def layB (size : Nat) (L : List Int) : List Int := L ++ List.replicate (size - L.length) 0

theorem length_layB {size : Nat} {L : List Int} (h : L.length ≤ size) : (layB size L).length = size := by simp [layB]; omega

theorem layB_put (size : Nat) (L z : List Int) (h : L.length + z.length ≤ size) : put (layB size L) L.length z = layB size (L ++ z) := by
  simp only [put, layB, List.take_left, List.length_append]
  have e1 : (L ++ List.replicate (size - L.length) 0).drop (L.length + z.length) = List.replicate (size - (L.length + z.length)) (0 : Int) := by
    rw [List.drop_append, List.drop_of_length_le (by omega), List.nil_append, List.drop_replicate]
    congr 1; omega
  rw [e1]

theorem layB_byte (size : Nat) (L : List Int) (h : ∀ z ∈ L, 0 ≤ z ∧ z ≤ 255) : ∀ z ∈ layB size L, 0 ≤ z ∧ z ≤ 255 := by
  intro z hz
  rcases List.mem_append.1 hz with hz | hz
  · exact h z hz
  · simp at hz; omega

abbrev Prt := Option Addr × Nat × Nat × List Int

abbrev pv (p : Prt) : Value := .slice p.1 p.2.1 p.2.2.1

def PHas (w : World) (a : Option Addr) (n : Nat) (ps : List Prt) : Prop :=
  ps.length = n ∧ (0 < n → ∃ b off, a = some ⟨b, off, none⟩ ∧ b < w.heap.size ∧ ∀ j, (hj : j < ps.length) → w.cell? ⟨b, off + j, none⟩ = some (pv ps[j])) ∧ ∀ p ∈ ps, Has w p.1 p.2.1 p.2.2.2

theorem Has.lt {w : World} {a : Option Addr} {len : Nat} {zs : List Int} (h : Has w a len zs) {b off : Nat} (hp : 0 < len) (e : a = some ⟨b, off, none⟩) : b < w.heap.size := by
  obtain ⟨b', off', e', hc⟩ := h.2 hp
  rw [e] at e'
  cases e'
  exact cell_block_lt (hc 0 hp)

theorem Has.later {w w' : World} {a : Option Addr} {len : Nat} {zs : List Int} (h : Has w a len zs) (hb : Below w.heap.size w w') : Has w' a len zs := by
  refine ⟨h.1, fun hp => ?_⟩
  obtain ⟨b, off, e, hc⟩ := h.2 hp
  exact ⟨b, off, e, fun j hj => (hb.cell (p := ⟨b, off + j, none⟩) (h.lt hp e)).trans (hc j hj)⟩

theorem PHas.later {w w' : World} {a : Option Addr} {n : Nat} {ps : List Prt} (h : PHas w a n ps) (hb : Below w.heap.size w w') : PHas w' a n ps := by
  obtain ⟨h1, h2, h3⟩ := h
  refine ⟨h1, fun hp => ?_, fun p hp => (h3 p hp).later hb⟩
  obtain ⟨b, off, e, hlt, hc⟩ := h2 hp
  exact ⟨b, off, e, Nat.lt_of_lt_of_le hlt hb.size, fun j hj => (hb.cell (p := ⟨b, off + j, none⟩) hlt).trans (hc j hj)⟩

def allP (ps : List Prt) : List Int := (ps.map (fun p => p.2.2.2)).flatten

theorem allP_succ (ps : List Prt) (k : Nat) (hk : k < ps.length) : allP (ps.take (k + 1)) = allP (ps.take k) ++ ps[k].2.2.2 := by
  rw [allP, List.take_succ_eq_append_getElem hk, List.map_append, List.flatten_append]
  simp only [allP, List.map_cons, List.map_nil, List.flatten_cons, List.flatten_nil, List.append_nil]

theorem allP_take_le (ps : List Prt) (k : Nat) : (allP (ps.take k)).length ≤ (allP ps).length := by
  have : allP ps = allP (ps.take k) ++ allP (ps.drop k) := by
    simp only [allP]
    rw [← List.flatten_append, ← List.map_append, List.take_append_drop]
  rw [this, List.length_append]; omega

set_option maxRecDepth 100000 in
set_option maxHeartbeats 2000000 in
theorem clay_any (size : Nat) (a : Option Addr) (n cap : Nat) (ps : List Prt) (w : World) (h : PHas w a n ps) (hn : n ≤ 1000) (hs : (allP ps).length ≤ size) (hsz : size ≤ 140737488351300) :
    Calls Tryz.prog 207 #[.int .i64 (size : Int), .slice a n cap] w fun e w' => e = .returned (.slice (some ⟨w.heap.size, 0, none⟩) size size) ∧ Hid (Block w' w.heap.size (layB size (allP ps))) ∧ Below w.heap.size w w' := by
  have hmk := run_make_row' (P := Tryz.prog) 49 5 (.int .u8 0) 1 Tryz.underlying49 info5 rfl .i64 .i64 size (by omega) (by omega)
  have hb0 : Below w.heap.size w (w.alloc (.cells (madeCells #[.int .u8 0] size) 5)) := (Below.refl _ w).alloc (Nat.le_refl _) _
  have HB : Hid (Block (w.alloc (.cells (madeCells #[.int .u8 0] size) 5)) w.heap.size (layB size (allP (ps.take 0)))) := by
    have h0 : layB size (allP (ps.take 0)) = List.replicate size 0 := by simp [layB, allP]
    rw [h0]
    exact make_blockC w size
  have H := hide h
  have HS := hide hs
  have hlen := h.1
  clear h hs
  go_enter Tryz.func207, Tryz.ntmps207
  go_wp2
  go_loopw [6, 13] (fun at' i wr => ∃ k at0 : Nat, k ≤ n ∧ i = .int .i64 (k : Int) ∧ at' = .int .i64 (at0 : Int) ∧ at0 ≤ size ∧ Hid (at0 = (allP (ps.take k)).length) ∧ Hid (Block wr w.heap.size (layB size (allP (ps.take k)))) ∧ Hid (Below w.heap.size w wr)) (fun _ i _ => n - (intOf i).toNat)
  case atStart => exact ⟨0, 0, Nat.zero_le _, rfl, rfl, Nat.zero_le _, rfl, HB, hb0⟩
  case round =>
    obtain ⟨k, at0, hk, rfl, rfl, hat, he, hBk, hbk⟩ := hrel
    clear HB hmk hb0
    by_cases hlt : k < n
    · obtain ⟨b, off, rfl, _, hc⟩ := (H.out.later hbk.out).2.1 (by omega)
      have hck := hc k (by omega)
      have hHas := (H.out.later hbk.out).2.2 ps[k] (List.getElem_mem _)
      have hsu := allP_succ ps k (by omega)
      have hle := allP_take_le ps (k + 1)
      generalize ps[k] = pp at *
      obtain ⟨pa, pn, pc, pz⟩ := pp
      dsimp only [pv] at hck hHas hsu
      rw [hsu, List.length_append] at hle
      have hroom : at0 + pn ≤ size := by have := he.out; have := HS.out; have := hHas.1; omega
      obtain ⟨w2, hr, hB2, hb2⟩ := copy_at hBk.out (length_layB (by have := he.out; have := HS.out; omega)) hHas pc hroom
      have HP : Hid (Block w2 w.heap.size (layB size (allP (ps.take (k + 1)))) ∧ Hid (Below w.heap.size w w2) ∧ at0 + pn = (allP (ps.take (k + 1))).length) := by
        have := he.out
        subst this
        refine ⟨?_, hbk.out.trans (hb2 _ (Nat.le_refl _)), by rw [hsu, List.length_append, hHas.1]⟩
        rw [hsu, ← layB_put size _ _ (by have := HS.out; omega)]
        exact hB2
      have hcut := run_cut_l (some ⟨w.heap.size, 0, none⟩) size size at0 hat
      generalize cutAt (some ⟨w.heap.size, 0, none⟩) size at0 = ca at *
      generalize hd : size - at0 = d at *
      clear hc hHas hsu hle hB2 hb2 he hBk hbk HS
      have hpn : (pn : Int) ≤ 140737488351300 := by omega
      go_wp2
      exact ⟨⟨k + 1, at0 + pn, by omega, by go_num, by go_num, by omega, HP.out.2.2, HP.out.1, HP.out.2.1⟩, by simp [intOf]; omega⟩
    · obtain rfl : k = n := by omega
      have e : ps.take k = ps := List.take_of_length_le (by omega)
      rw [e] at hBk
      go_wp2
      go_ret
      exact ⟨rfl, hBk, hbk.out⟩

end Go.Proofs.YtdkicniciciobaaGreatDoor

/- Slices of numbers: append([]int{}, x...), and the contract of skerryref01.SameInts. -/
namespace Go.Proofs.YtdkicniciciobaaGreatDoor
open Go.RowKit Go.Shelf
set_option linter.unusedVariables false
set_option maxRecDepth 100000

theorem info3 : (Tryz.prog.info? 3).map (fun i => (i.zero, i.size, i.bytes)) = some (some (.int .i64 0), 1, 8) := by kernel_rfl

theorem oneCell_ints (zs : List Int) : ∀ v ∈ zs.map (Value.int .i64), v.oneCell' = true := by
  intro v hv
  simp only [List.mem_map] at hv
  obtain ⟨z, _, rfl⟩ := hv
  rfl

set_option maxHeartbeats 1000000 in
theorem sameInts_any (a1 a2 : Option Addr) (len c1 c2 : Nat) (ns : List Int) (w : World) (h1 : IHas w a1 len ns) (h2 : IHas w a2 len ns) (hl : len ≤ 140737488351232) :
    Calls Tryz.prog 42 #[.slice a1 len c1, .slice a2 len c2] w fun e w' => e = .returned (.bool true) ∧ ∃ m, w' = w.drewN m := by
  have H1 := hide h1
  have H2 := hide h2
  clear h1 h2
  go_enter Tryz.func42, Tryz.ntmps42
  go_wp2
  go_loopw [5] (fun i wr => ∃ k : Nat, k ≤ len ∧ i = .int .i64 (k : Int) ∧ Hid (∃ m, wr = w.drewN m)) (fun i _ => len - (intOf i).toNat)
  case atStart => exact ⟨0, Nat.zero_le _, rfl, 0, rfl⟩
  case round =>
    obtain ⟨k, hk, rfl, hw⟩ := hrel
    by_cases hlt : k < len
    · obtain ⟨b1, o1, rfl, hc1⟩ := H1.out.2 (by omega)
      obtain ⟨b2, o2, rfl, hc2⟩ := H2.out.2 (by omega)
      have e1 : wr.cell? ⟨b1, o1 + k, none⟩ = some (.int .i64 (ns[k]?.getD 0)) := by obtain ⟨m, rfl⟩ := hw.out; exact hc1 k hlt
      have e2 : wr.cell? ⟨b2, o2 + k, none⟩ = some (.int .i64 (ns[k]?.getD 0)) := by obtain ⟨m, rfl⟩ := hw.out; exact hc2 k hlt
      generalize ns[k]?.getD 0 = z at *
      have hlt' : (k : Int) < (len : Int) := by omega
      clear hc1 hc2 hlt
      go_wp2
      go_quiet (fail)
      go_wp2
      refine ⟨⟨k + 1, by omega, by go_num, ?_⟩, by simp [intOf]; omega⟩
      obtain ⟨m, rfl⟩ := hw.out
      exact ⟨_, World.drewN_drewN _ _ _⟩
    · obtain rfl : k = len := by omega
      go_wp2
      go_ret
      exact ⟨rfl, hw.out⟩

end Go.Proofs.YtdkicniciciobaaGreatDoor

/- The contract of skerryref01.IntsApart. -/
namespace Go.Proofs.YtdkicniciciobaaGreatDoor
open Go.RowKit Go.Shelf
set_option linter.unusedVariables false
set_option maxRecDepth 100000

def imk (n : Int) : Int := n

def IOwn (B : Nat) (w : World) (a : Option Addr) (n c : Nat) (xs : List Int) : Prop :=
  xs.length = n ∧ n ≤ c ∧ c ≤ maxLen ∧ ((a = none ∧ n = 0 ∧ c = 0) ∨ ∃ g cur, a = some ⟨g, 0, none⟩ ∧ B ≤ g ∧ w.heap[g]? = some (.cells cur 3 (0, 0)) ∧ cur.size = c ∧ cur.toList.take n = xs.map (Value.int .i64))

theorem IOwn.kept {B : Nat} {w w' : World} {a : Option Addr} {n c : Nat} {xs : List Int} (h : IOwn B w a n c xs) (hk : ∀ g, a = some ⟨g, 0, none⟩ → w'.heap[g]? = w.heap[g]?) : IOwn B w' a n c xs := by
  obtain ⟨h1, h2, h3, h4⟩ := h
  refine ⟨h1, h2, h3, ?_⟩
  rcases h4 with h4 | ⟨g, cur, e, hg, hh, r⟩
  · exact .inl h4
  · exact .inr ⟨g, cur, e, hg, (hk g e).trans hh, r⟩

theorem IOwn.cell {B : Nat} {w : World} {a : Option Addr} {n c : Nat} {xs : List Int} (h : IOwn B w a n c xs) {j : Nat} (hj : j < n) : ∃ g, a = some ⟨g, 0, none⟩ ∧ B ≤ g ∧ w.cell? ⟨g, j, none⟩ = some (.int .i64 (xs[j]?.getD 0)) ∧ w.frozen? ⟨g, j, none⟩ = false := by
  obtain ⟨h1, h2, h3, h4⟩ := h
  rcases h4 with ⟨_, h4, _⟩ | ⟨g, cur, e, hg, hh, hc, ht⟩
  · omega
  · refine ⟨g, e, hg, ?_, by simp [World.frozen?, hh]⟩
    have hx : (cur.toList.take n)[j]? = some (.int .i64 (xs[j]?.getD 0)) := by
      rw [ht, List.getElem?_map, List.getElem?_eq_getElem (by omega)]; rfl
    rw [List.getElem?_take_of_lt hj] at hx
    simp only [World.cell?, hh]
    simpa using hx

theorem IOwn.set {B : Nat} {w : World} {g n c : Nat} {xs : List Int} (h : IOwn B w (some ⟨g, 0, none⟩) n c xs) (j : Nat) (z : Int) : IOwn B (w.setCell ⟨g, j, none⟩ (.int .i64 z)) (some ⟨g, 0, none⟩) n c (xs.set j z) := by
  obtain ⟨h1, h2, h3, h4⟩ := h
  rcases h4 with ⟨h4, _⟩ | ⟨g', cur, e, hg, hh, hc, ht⟩
  · cases h4
  · cases e
    refine ⟨by simp [h1], h2, h3, .inr ⟨g, _, rfl, hg, by rw [setCell_eq_setRow w g j _ 3 (0, 0) _ hh]; exact setRow_heap w g _ _ 3 _ hh, by simpa using hc, ?_⟩⟩
    rw [Array.toList_setIfInBounds, List.take_set, ht, List.map_set]

theorem run_append_intb (B : Nat) (w : World) (ty : TypeId) (a : Option Addr) (n c : Nat) (xs : List Int) (h : IOwn B w a n c xs) (hB : B ≤ w.heap.size) (nb : Nat) (z : Int) (hz : w.cell? ⟨nb, 0, none⟩ = some (.int .i64 z)) (hn : n + 1 ≤ 17592186044416) :
    ∃ a' c' w', (Builtin.append_ #[22, 22] ty #[.slice a n c, .slice (some ⟨nb, 0, none⟩) 1 1]).run Tryz.prog w = .ok (.slice a' (n + 1) c') w' ∧ IOwn B w' a' (n + 1) c' (xs ++ [z]) ∧
      (∀ k, k < w.heap.size → (∀ g, a = some ⟨g, 0, none⟩ → k ≠ g) → w'.heap[k]? = w.heap[k]?) ∧ Below B w w' ∧
      ((a' = a ∧ c' = c ∧ ∀ m, m ≤ n → IOwn B w' a m c (xs.take m)) ∨ (∃ g', a' = some ⟨g', 0, none⟩ ∧ w.heap.size ≤ g' ∧ ∀ k, k < w.heap.size → w'.heap[k]? = w.heap[k]?)) := by
  obtain ⟨i0, hi, hz0, hz1, hz2⟩ := info_parts info3
  have hnews : ∀ (j : Nat) (u : Value), [Value.int .i64 z][j]? = some u → w.cell? ((⟨nb, 0, none⟩ : Addr).add j) = some u := by
    intro j u hj
    cases j with
    | zero => simp at hj; subst hj; simpa [Addr.add] using hz
    | succ j => simp at hj
  have h1c : ∀ u ∈ [Value.int .i64 z], u.oneCell' = true := by intro u hu; simp at hu; subst hu; rfl
  have hmax : n + 1 ≤ maxLen := by unfold maxLen; omega
  obtain ⟨h1, h2, h3, h4⟩ := h
  have growCase : c < n + 1 → ∀ (v : Value) (w' : World), w'.ownsRow w.heap.size 3 1 v (n + 1) (xs.map (Value.int .i64) ++ [Value.int .i64 z]) → w.grownBy w' none →
      ∃ a' c', v = .slice a' (n + 1) c' ∧ IOwn B w' a' (n + 1) c' (xs ++ [z]) ∧ (∀ k, k < w.heap.size → (∀ g, a = some ⟨g, 0, none⟩ → k ≠ g) → w'.heap[k]? = w.heap[k]?) ∧ Below B w w' ∧
        (∃ g', a' = some ⟨g', 0, none⟩ ∧ w.heap.size ≤ g' ∧ ∀ k, k < w.heap.size → w'.heap[k]? = w.heap[k]?) := by
    intro hc v w' ho hg
    have hb : ∀ k, k < w.heap.size → w'.heap[k]? = w.heap[k]? := fun k hk => hg.block k hk (by simp)
    rcases ho.2 with ⟨_, h0⟩ | ⟨g', cap', cur, rfl, hbg, hh, hnc, hcm, hcs, ht⟩
    · omega
    · refine ⟨some ⟨g', 0, none⟩, cap', rfl, ⟨by simp [h1], hnc, hcm, .inr ⟨g', cur, rfl, by omega, hh, by simpa using hcs, by simpa using ht⟩⟩, fun k hk _ => hb k hk, ⟨hg.os, hg.tape, hg.output, hg.size, fun k hk => hb k (by omega)⟩, g', rfl, hbg, hb⟩
  rcases h4 with ⟨rfl, rfl, rfl⟩ | ⟨g, cur, rfl, hg, hh, hc, ht⟩
  · have hx : xs = [] := List.eq_nil_of_length_eq_zero h1
    subst hx
    obtain ⟨v, w', hr, ho, hgr, _⟩ := run_append_own (P := Tryz.prog) w w.heap.size 22 ty 3 i0 (.int .i64 0) 1 8 Tryz.underlying22 hi hz0 hz1 hz2 rfl (by decide) (.slice none 0 0) 0 [] (World.ownsRow_nil w _ 3 1) ⟨nb, 0, none⟩ 1 1 [Value.int .i64 z] rfl hnews h1c hmax (by omega) (Nat.le_refl _)
    obtain ⟨a', c', rfl, k1, k2, k3, k4⟩ := growCase (by omega) v w' (by simpa using ho) (by simpa [Value.ownBlock] using hgr)
    exact ⟨a', c', w', hr, k1, k2, k3, .inr k4⟩
  · have holds : ∀ (j : Nat) (u : Value), (xs.map (Value.int .i64))[j]? = some u → w.cell? ((⟨g, 0, none⟩ : Addr).add j) = some u := by
      intro j u hj
      rw [World.add_zero_spot, Nat.zero_add]
      have hjl : j < n := by have := (List.getElem?_eq_some_iff.1 hj).1; simp at this; omega
      rw [← ht, List.getElem?_take_of_lt hjl] at hj
      simp only [World.cell?, hh]
      simpa using hj
    by_cases hroom : n + 1 ≤ c
    · have hr := run_append_room (P := Tryz.prog) w 22 ty 3 i0 Tryz.underlying22 hi g n c cur hh ⟨nb, 0, none⟩ 1 1 [Value.int .i64 z] (by rw [hz1]; rfl) hnews h1c hroom (by rw [hz1, hc]; simp; omega)
      refine ⟨_, c, _, hr, ?_, ?_, below_setRow (Below.refl _ _) hg _, .inl ⟨rfl, rfl, ?_⟩⟩
      · refine ⟨by simp [h1], hroom, h3, .inr ⟨g, _, rfl, hg, setRow_heap w g cur _ 3 _ hh, ?_, ?_⟩⟩
        · simp [hz1]; omega
        · rw [hz1, Nat.mul_one, ht]
          have hl : (xs.map (Value.int .i64) ++ [Value.int .i64 z]).length = n + 1 := by simp [h1]
          rw [List.toList_toArray, List.take_append_of_le_length (by omega), List.take_of_length_le (by omega)]
          simp
      · intro k _ hk
        exact setRow_other w g k _ (hk g rfl)
      · intro m hm
        refine ⟨by simp; omega, by omega, h3, .inr ⟨g, _, rfl, hg, setRow_heap w g cur _ 3 _ hh, ?_, ?_⟩⟩
        · simp [hz1]; omega
        · rw [hz1, Nat.mul_one, ht, List.append_assoc]
          rw [List.toList_toArray, List.take_append_of_le_length (by simp; omega), List.map_take]
    · obtain ⟨v, w', hr, ho, hgr⟩ := run_append_arg_grows (P := Tryz.prog) w 22 ty 3 i0 (.int .i64 0) 1 8 Tryz.underlying22 hi hz0 hz1 hz2 rfl (by decide) ⟨g, 0, none⟩ n c (xs.map (Value.int .i64)) (by simp [h1]) holds ⟨nb, 0, none⟩ 1 1 [Value.int .i64 z] rfl hnews (by omega) hmax (by omega)
      obtain ⟨a', c', rfl, k1, k2, k3, k4⟩ := growCase (by omega) v w' ho hgr
      exact ⟨a', c', w', hr, k1, k2, k3, .inr k4⟩

theorem IOwn.lt {B : Nat} {w : World} {a : Option Addr} {n c : Nat} {xs : List Int} (h : IOwn B w a n c xs) {g : Nat} (e : a = some ⟨g, 0, none⟩) : g < w.heap.size ∧ B ≤ g ∧ ∃ cur, w.heap[g]? = some (.cells cur 3 (0, 0)) := by
  obtain ⟨_, _, _, h4⟩ := h
  rcases h4 with ⟨h4, _⟩ | ⟨g', cur, e', hg, hh, _⟩
  · rw [h4] at e; cases e
  · rw [e] at e'; cases e'
    exact ⟨(Array.getElem?_eq_some_iff.1 hh).1, hg, cur, hh⟩

theorem IOwn.below {B n : Nat} {w w' : World} {a : Option Addr} {l c : Nat} {xs : List Int} (h : IOwn B w a l c xs) (hb : Below n w w') (hn : w.heap.size ≤ n) : IOwn B w' a l c xs :=
  h.kept (fun g e => hb.block g (by have := (h.lt e).1; omega))

theorem IOwn.base {B B' : Nat} {w : World} {a : Option Addr} {l c : Nat} {xs : List Int} (h : IOwn B w a l c xs) (hb : B' ≤ B) : IOwn B' w a l c xs := by
  obtain ⟨h1, h2, h3, h4⟩ := h
  refine ⟨h1, h2, h3, ?_⟩
  rcases h4 with h4 | ⟨g, cur, e, hg, r⟩
  · exact .inl h4
  · exact .inr ⟨g, cur, e, by omega, r⟩

theorem IOwn.nil (B : Nat) (w : World) : IOwn B w none 0 0 [] := ⟨rfl, Nat.le_refl _, by unfold maxLen; omega, .inl ⟨rfl, rfl, rfl⟩⟩

structure ILists where
  N : Nat
  B : Nat
  Lb : Nat
  ca : Array Value
  A : Nat → Option Addr
  L : Nat → Nat
  C : Nat → Nat
  off : Nat → Nat

structure ILists.Good (S : ILists) : Prop where
  few : S.N ≤ 64
  size : S.ca.size = S.N
  at' : ∀ p, p < S.N → S.ca[p]? = some (.slice (S.A p) (S.L p) (S.C p))
  off0 : S.off 0 = 0
  offS : ∀ p, p < S.N → S.off (p + 1) = S.off p + S.L p
  fit : ∀ p, p < S.N → S.L p ≤ 17592186043904
  base : S.B ≤ S.Lb
  apart : ∀ p p', p < S.N → p' < S.N → p ≠ p' → ∀ g, S.A p = some ⟨g, 0, none⟩ → S.A p' ≠ some ⟨g, 0, none⟩

theorem ILists.Good.off_le {S : ILists} (h : S.Good) (p : Nat) (hp : p ≤ S.N) : S.off p ≤ p * 17592186043904 := by
  induction p with
  | zero => exact Nat.le_trans (Nat.le_of_eq h.off0) (Nat.zero_le _)
  | succ p ih => rw [h.offS p (by omega)]; have := h.fit p (by omega); have := ih (by omega); omega

theorem ILists.Good.off_bd {S : ILists} (h : S.Good) (p : Nat) (hp : p ≤ S.N) : S.off p ≤ 9007199254478848 := by
  have h1 := h.off_le p hp
  have h2 := h.few
  omega

def IPh1 (S : ILists) (w0 w : World) (i j : Nat) : Prop :=
  w.heap[S.Lb]? = some (.cells S.ca 22 (0, 0)) ∧ Below S.B w0 w ∧
    ∀ p, p < S.N → ∃ cs, IOwn S.B w (S.A p) (S.L p) (S.C p) cs ∧ ∀ q, q < S.L p → (p < i ∨ (p = i ∧ q < j)) → cs[q]?.getD 0 = imk ((S.off p + q : Nat) : Int)

theorem IPh1.ls {S : ILists} (hS : S.Good) {w0 w : World} {i j : Nat} (h : IPh1 S w0 w i j) {p : Nat} (hp : p < S.N) : w.cell? ⟨S.Lb, p, none⟩ = some (.slice (S.A p) (S.L p) (S.C p)) := by
  simp only [World.cell?, h.1]
  simpa using hS.at' p hp

theorem IPh1.next {S : ILists} {w0 w : World} {i : Nat} (h : IPh1 S w0 w i (S.L i)) : IPh1 S w0 w (i + 1) 0 := by
  refine ⟨h.1, h.2.1, fun p hp => ?_⟩
  obtain ⟨cs, ho, hc⟩ := h.2.2 p hp
  refine ⟨cs, ho, fun q hq hx => hc q hq ?_⟩
  by_cases e : p = i
  · subst e; exact .inr ⟨rfl, hq⟩
  · exact .inl (by omega)

theorem IPh1.store {S : ILists} (hS : S.Good) {w0 w : World} {i j : Nat} (h : IPh1 S w0 w i j) (hi : i < S.N) (hj : j < S.L i) :
    ∃ g v, S.A i = some ⟨g, 0, none⟩ ∧ w.cell? ⟨g, j, none⟩ = some v ∧ w.frozen? ⟨g, j, none⟩ = false ∧ IPh1 S w0 (w.setCell ⟨g, j, none⟩ (.int .i64 (imk ((S.off i + j : Nat) : Int)))) i (j + 1) := by
  obtain ⟨cs, ho, hc⟩ := h.2.2 i hi
  obtain ⟨g, e, hg, hcell, hfr⟩ := ho.cell hj
  refine ⟨g, _, e, hcell, hfr, ?_, h.2.1.setCell (p := ⟨g, j, none⟩) hg _, fun p hp => ?_⟩
  · have hne : S.Lb ≠ g := by
      rintro rfl
      rw [e] at ho
      obtain ⟨_, _, _, h4⟩ := ho
      rcases h4 with ⟨h4, _⟩ | ⟨g', cur, e', _, hh, _⟩
      · cases h4
      · cases e'
        rw [h.1] at hh
        simp at hh
    exact (Below.heap_setCell _ _ _ _ hne).trans h.1
  · by_cases hpi : p = i
    · subst hpi
      rw [e] at ho
      have hs := ho.set j (imk ((S.off p + j : Nat) : Int))
      rw [e]
      refine ⟨_, hs, fun q hq hx => ?_⟩
      have hl := ho.1
      by_cases hqj : q = j
      · subst hqj
        rw [List.getElem?_set_self (by omega)]; rfl
      · rw [List.getElem?_set_ne (by omega)]
        exact hc q hq (by omega)
    · obtain ⟨cs', ho', hc'⟩ := h.2.2 p hp
      refine ⟨cs', ho'.kept (fun g' e' => Below.heap_setCell _ _ _ _ ?_), fun q hq hx => hc' q hq (by omega)⟩
      rintro rfl
      exact hS.apart i p hi hp (by omega) _ e e'

def isval (t : Option Addr × Nat × Nat) : Value := .slice t.1 t.2.1 t.2.2

def iext (S : ILists) (p q : Nat) : Int := imk ((S.off S.N + 6 * p + q : Nat) : Int)

def IPh2 (S : ILists) (B2 : Nat) (w0 w : World) (i : Nat) (us : List (Option Addr × Nat × Nat)) (gv : Value) : Prop :=
  IPh1 S w0 w S.N 0 ∧ us.length = i ∧ w.ownsRow B2 22 1 gv i (us.map isval) ∧
  (∀ p t, us[p]? = some t → t.2.1 = S.L p + 6 ∧ ∃ cs, IOwn S.B w t.1 t.2.1 t.2.2 cs ∧ ∀ q, q < 6 → cs[S.L p + q]?.getD 0 = iext S p q) ∧
  (∀ t ∈ us, ∀ k, i ≤ k → k < S.N → ∀ g, S.A k = some ⟨g, 0, none⟩ → t.1 ≠ some ⟨g, 0, none⟩)

def IPh2i (S : ILists) (B2 : Nat) (w0 w : World) (i : Nat) (us : List (Option Addr × Nat × Nat)) (gv : Value) (ga : Option Addr) (gc j : Nat) : Prop :=
  IPh2 S B2 w0 w i us gv ∧
  (∃ cs, IOwn S.B w ga (S.L i + j) gc cs ∧ (∀ q, q < S.L i → cs[q]?.getD 0 = imk ((S.off i + q : Nat) : Int)) ∧ ∀ q, q < j → cs[S.L i + q]?.getD 0 = iext S i q) ∧
  (∀ t ∈ us, ∀ g, ga = some ⟨g, 0, none⟩ → t.1 ≠ some ⟨g, 0, none⟩) ∧
  (∀ k, k < S.N → k ≠ i → ∀ g, ga = some ⟨g, 0, none⟩ → S.A k ≠ some ⟨g, 0, none⟩) ∧
  ((ga = S.A i ∧ gc = S.C i) ∨ ∀ g, ga = some ⟨g, 0, none⟩ → S.A i ≠ some ⟨g, 0, none⟩)

theorem IPh2.kept {S : ILists} {B2 : Nat} {w0 w w' : World} {i : Nat} {us : List (Option Addr × Nat × Nat)} {gv : Value} (hS : S.Good) (h : IPh2 S B2 w0 w i us gv) (ga : Option Addr) (hB : Below S.B w w')
    (h5 : ∀ g, ga = some ⟨g, 0, none⟩ → ∃ cur, w.heap[g]? = some (.cells cur 3 (0, 0)))
    (hk : ∀ k, k < w.heap.size → (∀ g, ga = some ⟨g, 0, none⟩ → k ≠ g) → w'.heap[k]? = w.heap[k]?)
    (hu : ∀ t ∈ us, ∀ g, ga = some ⟨g, 0, none⟩ → t.1 ≠ some ⟨g, 0, none⟩)
    (hA : ∀ k, k < S.N → k ≠ i → ∀ g, ga = some ⟨g, 0, none⟩ → S.A k ≠ some ⟨g, 0, none⟩)
    (hi : i < S.N → ∃ cs, IOwn S.B w' (S.A i) (S.L i) (S.C i) cs ∧ ∀ q, q < S.L i → cs[q]?.getD 0 = imk ((S.off i + q : Nat) : Int)) : IPh2 S B2 w0 w' i us gv := by
  obtain ⟨⟨hL, hBw, hown⟩, hul, hrow, hus, hfu⟩ := h
  have hty : ∀ (k : Nat) (cur : Array Value), w.heap[k]? = some (Obj.cells cur 22 (0, 0)) → w'.heap[k]? = w.heap[k]? := by
    intro k cur hh
    refine hk k (Array.getElem?_eq_some_iff.1 hh).1 (fun g e hkg => ?_)
    subst hkg
    obtain ⟨cur', h'⟩ := h5 _ e
    rw [hh] at h'; simp at h'
  refine ⟨⟨(hty _ _ hL).trans hL, hBw.trans hB, fun p hp => ?_⟩, hul, ownsRow_block hrow (fun g cur _ hh => hty g cur hh), fun p t ht => ?_, hfu⟩
  · by_cases hpi : p = i
    · subst hpi
      obtain ⟨cs, ho, hc⟩ := hi hp
      exact ⟨cs, ho, fun q hq _ => hc q hq⟩
    · obtain ⟨cs, ho, hc⟩ := hown p hp
      refine ⟨cs, ho.kept (fun g e => hk g (ho.lt e).1 (fun g' e' hgg => ?_)), hc⟩
      subst hgg
      exact hA p hp hpi _ e' e
  · obtain ⟨h1, cs, ho, hc⟩ := hus p t ht
    refine ⟨h1, cs, ho.kept (fun g e => hk g (ho.lt e).1 (fun g' e' hgg => ?_)), hc⟩
    subst hgg
    exact hu t (List.mem_of_getElem? ht) _ e' e

theorem IPh2.alloc {S : ILists} {B2 : Nat} {w0 w : World} {i : Nat} {us : List (Option Addr × Nat × Nat)} {gv : Value} (hS : S.Good) (h : IPh2 S B2 w0 w i us gv) (hB : S.B ≤ w.heap.size) (o : Obj) : IPh2 S B2 w0 (w.alloc o) i us gv := by
  refine h.kept hS none ((Below.refl _ w).alloc hB o) (fun g e => by cases e) (fun k hk _ => Below.heap_alloc w o k hk) (fun _ _ g e => by cases e) (fun _ _ _ g e => by cases e) (fun hi => ?_)
  obtain ⟨cs, ho, hc⟩ := h.1.2.2 i hi
  exact ⟨cs, ho.kept (fun g e => Below.heap_alloc w o g (ho.lt e).1), fun q hq => hc q hq (.inl hi)⟩

theorem IPh2.start {S : ILists} {w0 w : World} {B2 : Nat} (h : IPh1 S w0 w S.N 0) : IPh2 S B2 w0 w 0 [] (.slice none 0 0) :=
  ⟨h, rfl, World.ownsRow_nil w B2 22 1, by simp, by simp⟩

theorem IPh2i.start {S : ILists} (hS : S.Good) {B2 : Nat} {w0 w : World} {i : Nat} {us : List (Option Addr × Nat × Nat)} {gv : Value} (h : IPh2 S B2 w0 w i us gv) (hi : i < S.N) : IPh2i S B2 w0 w i us gv (S.A i) (S.C i) 0 := by
  obtain ⟨cs, ho, hc⟩ := h.1.2.2 i hi
  exact ⟨h, ⟨cs, ho, fun q hq => hc q hq (.inl hi), fun q hq => by omega⟩, fun t ht g e => h.2.2.2.2 t ht i (Nat.le_refl _) hi g e, fun k hk hki g e => hS.apart i k hi hk (by omega) g e, .inl ⟨rfl, rfl⟩⟩

theorem IPh2i.step {S : ILists} (hS : S.Good) {B2 : Nat} {w0 w : World} {i : Nat} {us : List (Option Addr × Nat × Nat)} {gv : Value} {ga : Option Addr} {gc j : Nat} (h : IPh2i S B2 w0 w i us gv ga gc j) (hi : i < S.N) (hj : j < 6) (hB : S.B ≤ w.heap.size) :
    ∃ a' c' w', (∀ ty, (Builtin.append_ #[22, 22] ty #[.slice ga (S.L i + j) gc, .slice (some ⟨w.heap.size, 0, none⟩) 1 1]).run Tryz.prog (w.alloc (.cells #[.int .i64 (iext S i j)] 3)) = .ok (.slice a' (S.L i + j + 1) c') w') ∧
      IPh2i S B2 w0 w' i us gv a' c' (j + 1) ∧ w.heap.size ≤ w'.heap.size := by
  obtain ⟨h2, ⟨cs, ho, hm, he⟩, hu, hA, hd⟩ := h
  obtain ⟨z, hz⟩ : ∃ z, iext S i j = z := ⟨_, rfl⟩
  have hfit := hS.fit i hi
  have h2' := h2.alloc hS hB (.cells #[.int .i64 (iext S i j)] 3)
  have ho' : IOwn S.B (w.alloc (.cells #[.int .i64 (iext S i j)] 3)) ga (S.L i + j) gc cs := ho.kept (fun g e => Below.heap_alloc w _ g (ho.lt e).1)
  have hnew : (w.alloc (.cells #[.int .i64 (iext S i j)] 3)).cell? ⟨w.heap.size, 0, none⟩ = some (.int .i64 (iext S i j)) := (Boxed.new w 3 (.int .i64 (iext S i j))).cell
  obtain ⟨w1, hw1⟩ : ∃ w1, w.alloc (.cells #[.int .i64 (iext S i j)] 3) = w1 := ⟨_, rfl⟩
  have hsz : w1.heap.size = w.heap.size + 1 := by rw [← hw1]; simp
  rw [hw1] at h2' ho' hnew ⊢
  -- the type's number is not used by the run
  have hall := fun ty => run_append_intb S.B w1 ty ga (S.L i + j) gc cs ho' (by omega) w.heap.size (iext S i j) hnew (by omega)
  obtain ⟨a', c', w', hr, hown, hk, hb, hcase⟩ := hall 0
  refine ⟨a', c', w', fun ty => ?_, ?_, ?_⟩
  · have hty : (Builtin.append_ #[22, 22] ty #[.slice ga (S.L i + j) gc, .slice (some ⟨w.heap.size, 0, none⟩) 1 1]) = (Builtin.append_ #[22, 22] 0 #[.slice ga (S.L i + j) gc, .slice (some ⟨w.heap.size, 0, none⟩) 1 1]) := rfl
    rw [hty]; exact hr
  · have hmark : ∀ q, q < S.L i → (cs ++ [iext S i j])[q]?.getD 0 = imk ((S.off i + q : Nat) : Int) := by
      intro q hq
      have := ho.1
      rw [List.getElem?_append_left (by omega)]; exact hm q hq
    have hextra : ∀ q, q < j + 1 → (cs ++ [iext S i j])[S.L i + q]?.getD 0 = iext S i q := by
      intro q hq
      have hl := ho.1
      by_cases hqj : q = j
      · subst hqj
        rw [List.getElem?_append_right (by omega), hl, Nat.sub_self]; rfl
      · rw [List.getElem?_append_left (by omega)]; exact he q (by omega)
    have hAi : i < S.N → ∃ cs, IOwn S.B w' (S.A i) (S.L i) (S.C i) cs ∧ ∀ q, q < S.L i → cs[q]?.getD 0 = imk ((S.off i + q : Nat) : Int) := by
      intro _
      rcases hcase with ⟨rfl, rfl, hpre⟩ | ⟨g', rfl, hg', hsame⟩
      · rcases hd with ⟨e1, e2⟩ | hd
        · rw [← e1, ← e2]
          refine ⟨_, hpre (S.L i) (by omega), fun q hq => ?_⟩
          rw [List.getElem?_take_of_lt hq]; exact hm q hq
        · obtain ⟨cs', hoA, hcA⟩ := h2'.1.2.2 i hi
          refine ⟨cs', hoA.kept (fun g e => hk g (hoA.lt e).1 (fun g2 e2 hgg => ?_)), fun q hq => hcA q hq (.inl hi)⟩
          subst hgg
          exact hd _ e2 e
      · obtain ⟨cs', hoA, hcA⟩ := h2'.1.2.2 i hi
        exact ⟨cs', hoA.kept (fun g e => hsame g (hoA.lt e).1), fun q hq => hcA q hq (.inl hi)⟩
    have h2'' := h2'.kept hS ga hb (fun g e => (ho'.lt e).2.2) hk hu hA hAi
    refine ⟨h2'', ⟨cs ++ [iext S i j], hown, hmark, hextra⟩, ?_, ?_, ?_⟩
    · rcases hcase with ⟨rfl, rfl, _⟩ | ⟨g', rfl, hg', _⟩
      · exact hu
      · intro t ht g e e2
        cases e
        obtain ⟨p, hp⟩ := List.getElem?_of_mem ht
        obtain ⟨_, cs2, ho2, _⟩ := h2'.2.2.2.1 p t hp
        have := (ho2.lt e2).1
        omega
    · rcases hcase with ⟨rfl, rfl, _⟩ | ⟨g', rfl, hg', _⟩
      · exact hA
      · intro k hk' hki g e e2
        cases e
        obtain ⟨cs2, ho2, _⟩ := h2'.1.2.2 k hk'
        have := (ho2.lt e2).1
        omega
    · rcases hcase with ⟨rfl, rfl, _⟩ | ⟨g', rfl, hg', _⟩
      · exact hd
      · refine .inr (fun g e e2 => ?_)
        cases e
        obtain ⟨cs2, ho2, _⟩ := h2'.1.2.2 i hi
        have := (ho2.lt e2).1
        omega
  · have := hb.size; omega

theorem IPh2i.done {S : ILists} (hS : S.Good) {B2 : Nat} {w0 w w' : World} {i : Nat} {us : List (Option Addr × Nat × Nat)} {gv gv' : Value} {ga : Option Addr} {gc : Nat} (h : IPh2i S B2 w0 w i us gv ga gc 6) (hi : i < S.N) (hB : S.B ≤ w.heap.size) (hLb : S.Lb < B2) (hBB : S.B ≤ B2)
    (o : Obj) (hrow : w'.ownsRow B2 22 1 gv' (i + 1) (us.map isval ++ [.slice ga (S.L i + 6) gc])) (hg : (w.alloc o).grownBy w' gv.ownBlock) : IPh2 S B2 w0 w' (i + 1) (us ++ [(ga, S.L i + 6, gc)]) gv' := by
  obtain ⟨h2, ⟨cs, ho, hm, he⟩, hu, hA, hd⟩ := h
  have h2' := h2.alloc hS hB o
  have hrow0 := h2'.2.2.1
  have hkb : ∀ k, k < (w.alloc o).heap.size → (k < B2 ∨ ∃ cur, (w.alloc o).heap[k]? = some (.cells cur 3 (0, 0))) → w'.heap[k]? = (w.alloc o).heap[k]? := by
    intro k hk hx
    refine hg.block k hk (fun e => ?_)
    rcases hrow0.2 with ⟨e0, _⟩ | ⟨g, cap, cur, e0, hb, hh, _⟩
    · rw [e0] at e; cases e
    · rw [e0] at e
      simp only [Value.ownBlock, Option.some.injEq] at e
      subst e
      rcases hx with hx | ⟨cur', hx⟩
      · omega
      · rw [hh] at hx; simp at hx
  have hkO : ∀ {a : Option Addr} {n c : Nat} {xs : List Int}, IOwn S.B (w.alloc o) a n c xs → IOwn S.B w' a n c xs := by
    intro a n c xs hO
    exact hO.kept (fun g e => hkb g (hO.lt e).1 (.inr (hO.lt e).2.2))
  have ho' : IOwn S.B (w.alloc o) ga (S.L i + 6) gc cs := ho.kept (fun g e => Below.heap_alloc w _ g (ho.lt e).1)
  have hLlt : S.Lb < (w.alloc o).heap.size := (Array.getElem?_eq_some_iff.1 h2'.1.1).1
  refine ⟨⟨(hkb _ hLlt (.inl hLb)).trans h2'.1.1, h2'.1.2.1.trans ⟨hg.os, hg.tape, hg.output, hg.size, fun k hk => hkb k (by simp; omega) (.inl (by omega))⟩, fun p hp => ?_⟩, by simp [h2.2.1], by simpa [isval] using hrow, fun p t ht => ?_, ?_⟩
  · obtain ⟨cs', hO, hc⟩ := h2'.1.2.2 p hp
    exact ⟨cs', hkO hO, hc⟩
  · by_cases hp : p < us.length
    · rw [List.getElem?_append_left hp] at ht
      obtain ⟨h1, cs', hO, hc⟩ := h2'.2.2.2.1 p t ht
      exact ⟨h1, cs', hkO hO, hc⟩
    · have hul := h2.2.1
      rw [List.getElem?_append_right (by omega)] at ht
      have hpi : p = i := by
        have := (List.getElem?_eq_some_iff.1 ht).1
        simp at this; omega
      subst hpi
      rw [hul, Nat.sub_self] at ht
      simp at ht
      subst ht
      exact ⟨rfl, cs, hkO ho', he⟩
  · intro t ht k hk hkN g e
    rcases List.mem_append.1 ht with ht | ht
    · exact h2.2.2.2.2 t ht k (by omega) hkN g e
    · simp at ht
      subst ht
      intro e2
      exact hA k hkN (by omega) g e2 e

theorem IPh2.shape {S : ILists} {B2 : Nat} {w0 w : World} {i : Nat} {us : List (Option Addr × Nat × Nat)} {gv : Value} (h : IPh2 S B2 w0 w i us gv) : ∃ a c, gv = .slice a i c := by
  rcases h.2.2.1.2 with ⟨e, e0⟩ | ⟨g, cap, cur, e, _⟩
  · exact ⟨none, 0, by rw [e, e0]⟩
  · exact ⟨_, cap, e⟩

theorem IPh2.byte {S : ILists} {B2 : Nat} {w0 w : World} {i : Nat} {us : List (Option Addr × Nat × Nat)} {gv : Value} (h : IPh2 S B2 w0 w i us gv) {k q : Nat} (hk : k < S.N) (hq : q < S.L k) :
    ∃ g, S.A k = some ⟨g, 0, none⟩ ∧ w.cell? ⟨g, q, none⟩ = some (.int .i64 (imk ((S.off k + q : Nat) : Int))) := by
  obtain ⟨cs, ho, hc⟩ := h.1.2.2 k hk
  obtain ⟨g, e, _, hcell, _⟩ := ho.cell hq
  rw [hc q hq (.inl hk)] at hcell
  exact ⟨g, e, hcell⟩

theorem IPh2.grown {S : ILists} {B2 : Nat} {w0 w : World} {i c : Nat} {us : List (Option Addr × Nat × Nat)} {a : Option Addr} (h : IPh2 S B2 w0 w i us (.slice a i c)) {k : Nat} (hk : k < i) :
    ∃ gb ua uc, a = some ⟨gb, 0, none⟩ ∧ w.cell? ⟨gb, k, none⟩ = some (.slice ua (S.L k + 6) uc) ∧ ∀ q, q < 6 → ∃ g, ua = some ⟨g, 0, none⟩ ∧ w.cell? ⟨g, S.L k + q, none⟩ = some (.int .i64 (iext S k q)) := by
  have hul := h.2.1
  obtain ⟨t, ht⟩ : ∃ t, us[k]? = some t := ⟨us[k], List.getElem?_eq_getElem (by omega)⟩
  obtain ⟨h1, cs, ho, hc⟩ := h.2.2.2.1 k t ht
  rcases h.2.2.1.2 with ⟨e, e0⟩ | ⟨g, cap, cur, e, _, hh, _, _, _, htk⟩
  · omega
  · cases e
    refine ⟨g, t.1, t.2.2, rfl, ?_, fun q hq => ?_⟩
    · have hx : (cur.toList.take (i * 1))[k]? = some (isval t) := by rw [htk, List.getElem?_map, ht]; rfl
      rw [List.getElem?_take_of_lt (by omega)] at hx
      simp only [World.cell?, hh]
      rw [← h1]
      simpa [isval] using hx
    · obtain ⟨g', e', _, hcell, _⟩ := ho.cell (j := S.L k + q) (by omega)
      rw [hc q hq] at hcell
      exact ⟨g', e', hcell⟩

end Go.Proofs.YtdkicniciciobaaGreatDoor

/- The contract of skerryref01.IntsApart, with a narrower frame (written by tools/gen_gapartk.py out of GApartI and GApartJ). -/
namespace Go.Proofs.YtdkicniciciobaaGreatDoor.FA
open Go.RowKit Go.Shelf
set_option linter.unusedVariables false
set_option maxRecDepth 100000

def TI (S : ILists) (k : Nat) : Prop := ∃ p, p < S.N ∧ S.A p = some ⟨k, 0, none⟩

def IPh1 (S : ILists) (w0 w : World) (i j : Nat) : Prop :=
  w.heap[S.Lb]? = some (.cells S.ca 22 (0, 0)) ∧ BI S.B (TI S) w0 w ∧
    ∀ p, p < S.N → ∃ cs, IOwn S.B w (S.A p) (S.L p) (S.C p) cs ∧ ∀ q, q < S.L p → (p < i ∨ (p = i ∧ q < j)) → cs[q]?.getD 0 = imk ((S.off p + q : Nat) : Int)

theorem IPh1.ls {S : ILists} (hS : S.Good) {w0 w : World} {i j : Nat} (h : IPh1 S w0 w i j) {p : Nat} (hp : p < S.N) : w.cell? ⟨S.Lb, p, none⟩ = some (.slice (S.A p) (S.L p) (S.C p)) := by
  simp only [World.cell?, h.1]
  simpa using hS.at' p hp

theorem IPh1.next {S : ILists} {w0 w : World} {i : Nat} (h : IPh1 S w0 w i (S.L i)) : IPh1 S w0 w (i + 1) 0 := by
  refine ⟨h.1, h.2.1, fun p hp => ?_⟩
  obtain ⟨cs, ho, hc⟩ := h.2.2 p hp
  refine ⟨cs, ho, fun q hq hx => hc q hq ?_⟩
  by_cases e : p = i
  · subst e; exact .inr ⟨rfl, hq⟩
  · exact .inl (by omega)

theorem IPh1.store {S : ILists} (hS : S.Good) {w0 w : World} {i j : Nat} (h : IPh1 S w0 w i j) (hi : i < S.N) (hj : j < S.L i) :
    ∃ g v, S.A i = some ⟨g, 0, none⟩ ∧ w.cell? ⟨g, j, none⟩ = some v ∧ w.frozen? ⟨g, j, none⟩ = false ∧ IPh1 S w0 (w.setCell ⟨g, j, none⟩ (.int .i64 (imk ((S.off i + j : Nat) : Int)))) i (j + 1) := by
  obtain ⟨cs, ho, hc⟩ := h.2.2 i hi
  obtain ⟨g, e, hg, hcell, hfr⟩ := ho.cell hj
  refine ⟨g, _, e, hcell, hfr, ?_, h.2.1.setCell hg ⟨i, hi, e⟩ _, fun p hp => ?_⟩
  · have hne : S.Lb ≠ g := by
      rintro rfl
      rw [e] at ho
      obtain ⟨_, _, _, h4⟩ := ho
      rcases h4 with ⟨h4, _⟩ | ⟨g', cur, e', _, hh, _⟩
      · cases h4
      · cases e'
        rw [h.1] at hh
        simp at hh
    exact (Below.heap_setCell _ _ _ _ hne).trans h.1
  · by_cases hpi : p = i
    · subst hpi
      rw [e] at ho
      have hs := ho.set j (imk ((S.off p + j : Nat) : Int))
      rw [e]
      refine ⟨_, hs, fun q hq hx => ?_⟩
      have hl := ho.1
      by_cases hqj : q = j
      · subst hqj
        rw [List.getElem?_set_self (by omega)]; rfl
      · rw [List.getElem?_set_ne (by omega)]
        exact hc q hq (by omega)
    · obtain ⟨cs', ho', hc'⟩ := h.2.2 p hp
      refine ⟨cs', ho'.kept (fun g' e' => Below.heap_setCell _ _ _ _ ?_), fun q hq hx => hc' q hq (by omega)⟩
      rintro rfl
      exact hS.apart i p hi hp (by omega) _ e e'

def IPh2 (S : ILists) (B2 : Nat) (w0 w : World) (i : Nat) (us : List (Option Addr × Nat × Nat)) (gv : Value) : Prop :=
  IPh1 S w0 w S.N 0 ∧ us.length = i ∧ w.ownsRow B2 22 1 gv i (us.map isval) ∧
  (∀ p t, us[p]? = some t → t.2.1 = S.L p + 6 ∧ ∃ cs, IOwn S.B w t.1 t.2.1 t.2.2 cs ∧ ∀ q, q < 6 → cs[S.L p + q]?.getD 0 = iext S p q) ∧
  (∀ t ∈ us, ∀ k, i ≤ k → k < S.N → ∀ g, S.A k = some ⟨g, 0, none⟩ → t.1 ≠ some ⟨g, 0, none⟩)

def IPh2i (S : ILists) (B2 : Nat) (w0 w : World) (i : Nat) (us : List (Option Addr × Nat × Nat)) (gv : Value) (ga : Option Addr) (gc j : Nat) : Prop :=
  IPh2 S B2 w0 w i us gv ∧
  (∃ cs, IOwn S.B w ga (S.L i + j) gc cs ∧ (∀ q, q < S.L i → cs[q]?.getD 0 = imk ((S.off i + q : Nat) : Int)) ∧ ∀ q, q < j → cs[S.L i + q]?.getD 0 = iext S i q) ∧
  (∀ t ∈ us, ∀ g, ga = some ⟨g, 0, none⟩ → t.1 ≠ some ⟨g, 0, none⟩) ∧
  (∀ k, k < S.N → k ≠ i → ∀ g, ga = some ⟨g, 0, none⟩ → S.A k ≠ some ⟨g, 0, none⟩) ∧
  ((ga = S.A i ∧ gc = S.C i) ∨ ∀ g, ga = some ⟨g, 0, none⟩ → S.A i ≠ some ⟨g, 0, none⟩) ∧
  (∀ g, ga = some ⟨g, 0, none⟩ → TI S g ∨ w0.heap.size ≤ g)

theorem IPh2.kept {S : ILists} {B2 : Nat} {w0 w w' : World} {i : Nat} {us : List (Option Addr × Nat × Nat)} {gv : Value} (hS : S.Good) (h : IPh2 S B2 w0 w i us gv) (ga : Option Addr) (hB : Below S.B w w')
    (h5 : ∀ g, ga = some ⟨g, 0, none⟩ → ∃ cur, w.heap[g]? = some (.cells cur 3 (0, 0)))
    (hTg : ∀ g, ga = some ⟨g, 0, none⟩ → TI S g ∨ w0.heap.size ≤ g)
    (hk : ∀ k, k < w.heap.size → (∀ g, ga = some ⟨g, 0, none⟩ → k ≠ g) → w'.heap[k]? = w.heap[k]?)
    (hu : ∀ t ∈ us, ∀ g, ga = some ⟨g, 0, none⟩ → t.1 ≠ some ⟨g, 0, none⟩)
    (hA : ∀ k, k < S.N → k ≠ i → ∀ g, ga = some ⟨g, 0, none⟩ → S.A k ≠ some ⟨g, 0, none⟩)
    (hi : i < S.N → ∃ cs, IOwn S.B w' (S.A i) (S.L i) (S.C i) cs ∧ ∀ q, q < S.L i → cs[q]?.getD 0 = imk ((S.off i + q : Nat) : Int)) : IPh2 S B2 w0 w' i us gv := by
  obtain ⟨⟨hL, hBw, hown⟩, hul, hrow, hus, hfu⟩ := h
  have hty : ∀ (k : Nat) (cur : Array Value), w.heap[k]? = some (Obj.cells cur 22 (0, 0)) → w'.heap[k]? = w.heap[k]? := by
    intro k cur hh
    refine hk k (Array.getElem?_eq_some_iff.1 hh).1 (fun g e hkg => ?_)
    subst hkg
    obtain ⟨cur', h'⟩ := h5 _ e
    rw [hh] at h'; simp at h'
  have hstay : ∀ k, k < w0.heap.size → ¬ TI S k → w'.heap[k]? = w.heap[k]? := by
    intro k hk0 hn
    refine hk k (Nat.lt_of_lt_of_le hk0 hBw.1.size) (fun g e hkg => ?_)
    subst hkg
    rcases hTg _ e with h | h
    · exact hn h
    · omega
  refine ⟨⟨(hty _ _ hL).trans hL, hBw.trans hB hstay, fun p hp => ?_⟩, hul, ownsRow_block hrow (fun g cur _ hh => hty g cur hh), fun p t ht => ?_, hfu⟩
  · by_cases hpi : p = i
    · subst hpi
      obtain ⟨cs, ho, hc⟩ := hi hp
      exact ⟨cs, ho, fun q hq _ => hc q hq⟩
    · obtain ⟨cs, ho, hc⟩ := hown p hp
      refine ⟨cs, ho.kept (fun g e => hk g (ho.lt e).1 (fun g' e' hgg => ?_)), hc⟩
      subst hgg
      exact hA p hp hpi _ e' e
  · obtain ⟨h1, cs, ho, hc⟩ := hus p t ht
    refine ⟨h1, cs, ho.kept (fun g e => hk g (ho.lt e).1 (fun g' e' hgg => ?_)), hc⟩
    subst hgg
    exact hu t (List.mem_of_getElem? ht) _ e' e

theorem IPh2.alloc {S : ILists} {B2 : Nat} {w0 w : World} {i : Nat} {us : List (Option Addr × Nat × Nat)} {gv : Value} (hS : S.Good) (h : IPh2 S B2 w0 w i us gv) (hB : S.B ≤ w.heap.size) (o : Obj) : IPh2 S B2 w0 (w.alloc o) i us gv := by
  refine h.kept hS none ((Below.refl _ w).alloc hB o) (fun g e => by cases e) (fun g e => by cases e) (fun k hk _ => Below.heap_alloc w o k hk) (fun _ _ g e => by cases e) (fun _ _ _ g e => by cases e) (fun hi => ?_)
  obtain ⟨cs, ho, hc⟩ := h.1.2.2 i hi
  exact ⟨cs, ho.kept (fun g e => Below.heap_alloc w o g (ho.lt e).1), fun q hq => hc q hq (.inl hi)⟩

theorem IPh2.start {S : ILists} {w0 w : World} {B2 : Nat} (h : IPh1 S w0 w S.N 0) : IPh2 S B2 w0 w 0 [] (.slice none 0 0) :=
  ⟨h, rfl, World.ownsRow_nil w B2 22 1, by simp, by simp⟩

theorem IPh2i.start {S : ILists} (hS : S.Good) {B2 : Nat} {w0 w : World} {i : Nat} {us : List (Option Addr × Nat × Nat)} {gv : Value} (h : IPh2 S B2 w0 w i us gv) (hi : i < S.N) : IPh2i S B2 w0 w i us gv (S.A i) (S.C i) 0 := by
  obtain ⟨cs, ho, hc⟩ := h.1.2.2 i hi
  exact ⟨h, ⟨cs, ho, fun q hq => hc q hq (.inl hi), fun q hq => by omega⟩, fun t ht g e => h.2.2.2.2 t ht i (Nat.le_refl _) hi g e, fun k hk hki g e => hS.apart i k hi hk (by omega) g e, .inl ⟨rfl, rfl⟩, fun g e => .inl ⟨i, hi, e⟩⟩

theorem IPh2i.step {S : ILists} (hS : S.Good) {B2 : Nat} {w0 w : World} {i : Nat} {us : List (Option Addr × Nat × Nat)} {gv : Value} {ga : Option Addr} {gc j : Nat} (h : IPh2i S B2 w0 w i us gv ga gc j) (hi : i < S.N) (hj : j < 6) (hB : S.B ≤ w.heap.size) :
    ∃ a' c' w', (∀ ty, (Builtin.append_ #[22, 22] ty #[.slice ga (S.L i + j) gc, .slice (some ⟨w.heap.size, 0, none⟩) 1 1]).run Tryz.prog (w.alloc (.cells #[.int .i64 (iext S i j)] 3)) = .ok (.slice a' (S.L i + j + 1) c') w') ∧
      IPh2i S B2 w0 w' i us gv a' c' (j + 1) ∧ w.heap.size ≤ w'.heap.size := by
  obtain ⟨h2, ⟨cs, ho, hm, he⟩, hu, hA, hd, hTg⟩ := h
  obtain ⟨z, hz⟩ : ∃ z, iext S i j = z := ⟨_, rfl⟩
  have hfit := hS.fit i hi
  have h2' := h2.alloc hS hB (.cells #[.int .i64 (iext S i j)] 3)
  have ho' : IOwn S.B (w.alloc (.cells #[.int .i64 (iext S i j)] 3)) ga (S.L i + j) gc cs := ho.kept (fun g e => Below.heap_alloc w _ g (ho.lt e).1)
  have hnew : (w.alloc (.cells #[.int .i64 (iext S i j)] 3)).cell? ⟨w.heap.size, 0, none⟩ = some (.int .i64 (iext S i j)) := (Boxed.new w 3 (.int .i64 (iext S i j))).cell
  obtain ⟨w1, hw1⟩ : ∃ w1, w.alloc (.cells #[.int .i64 (iext S i j)] 3) = w1 := ⟨_, rfl⟩
  have hsz : w1.heap.size = w.heap.size + 1 := by rw [← hw1]; simp
  rw [hw1] at h2' ho' hnew ⊢
  -- the type's number is not used by the run
  have hall := fun ty => run_append_intb S.B w1 ty ga (S.L i + j) gc cs ho' (by omega) w.heap.size (iext S i j) hnew (by omega)
  obtain ⟨a', c', w', hr, hown, hk, hb, hcase⟩ := hall 0
  refine ⟨a', c', w', fun ty => ?_, ?_, ?_⟩
  · have hty : (Builtin.append_ #[22, 22] ty #[.slice ga (S.L i + j) gc, .slice (some ⟨w.heap.size, 0, none⟩) 1 1]) = (Builtin.append_ #[22, 22] 0 #[.slice ga (S.L i + j) gc, .slice (some ⟨w.heap.size, 0, none⟩) 1 1]) := rfl
    rw [hty]; exact hr
  · have hmark : ∀ q, q < S.L i → (cs ++ [iext S i j])[q]?.getD 0 = imk ((S.off i + q : Nat) : Int) := by
      intro q hq
      have := ho.1
      rw [List.getElem?_append_left (by omega)]; exact hm q hq
    have hextra : ∀ q, q < j + 1 → (cs ++ [iext S i j])[S.L i + q]?.getD 0 = iext S i q := by
      intro q hq
      have hl := ho.1
      by_cases hqj : q = j
      · subst hqj
        rw [List.getElem?_append_right (by omega), hl, Nat.sub_self]; rfl
      · rw [List.getElem?_append_left (by omega)]; exact he q (by omega)
    have hAi : i < S.N → ∃ cs, IOwn S.B w' (S.A i) (S.L i) (S.C i) cs ∧ ∀ q, q < S.L i → cs[q]?.getD 0 = imk ((S.off i + q : Nat) : Int) := by
      intro _
      rcases hcase with ⟨rfl, rfl, hpre⟩ | ⟨g', rfl, hg', hsame⟩
      · rcases hd with ⟨e1, e2⟩ | hd
        · rw [← e1, ← e2]
          refine ⟨_, hpre (S.L i) (by omega), fun q hq => ?_⟩
          rw [List.getElem?_take_of_lt hq]; exact hm q hq
        · obtain ⟨cs', hoA, hcA⟩ := h2'.1.2.2 i hi
          refine ⟨cs', hoA.kept (fun g e => hk g (hoA.lt e).1 (fun g2 e2 hgg => ?_)), fun q hq => hcA q hq (.inl hi)⟩
          subst hgg
          exact hd _ e2 e
      · obtain ⟨cs', hoA, hcA⟩ := h2'.1.2.2 i hi
        exact ⟨cs', hoA.kept (fun g e => hsame g (hoA.lt e).1), fun q hq => hcA q hq (.inl hi)⟩
    have h2'' := h2'.kept hS ga hb (fun g e => (ho'.lt e).2.2) hTg hk hu hA hAi
    refine ⟨h2'', ⟨cs ++ [iext S i j], hown, hmark, hextra⟩, ?_, ?_, ?_, ?_⟩
    · rcases hcase with ⟨rfl, rfl, _⟩ | ⟨g', rfl, hg', _⟩
      · exact hu
      · intro t ht g e e2
        cases e
        obtain ⟨p, hp⟩ := List.getElem?_of_mem ht
        obtain ⟨_, cs2, ho2, _⟩ := h2'.2.2.2.1 p t hp
        have := (ho2.lt e2).1
        omega
    · rcases hcase with ⟨rfl, rfl, _⟩ | ⟨g', rfl, hg', _⟩
      · exact hA
      · intro k hk' hki g e e2
        cases e
        obtain ⟨cs2, ho2, _⟩ := h2'.1.2.2 k hk'
        have := (ho2.lt e2).1
        omega
    · rcases hcase with ⟨rfl, rfl, _⟩ | ⟨g', rfl, hg', _⟩
      · exact hd
      · refine .inr (fun g e e2 => ?_)
        cases e
        obtain ⟨cs2, ho2, _⟩ := h2'.1.2.2 i hi
        have := (ho2.lt e2).1
        omega
    · rcases hcase with ⟨rfl, rfl, _⟩ | ⟨g', rfl, hg', _⟩
      · exact hTg
      · intro g e
        cases e
        have := h2'.1.2.1.1.size
        exact .inr (by omega)
  · have := hb.size; omega

theorem IPh2i.done {S : ILists} (hS : S.Good) {B2 : Nat} {w0 w w' : World} {i : Nat} {us : List (Option Addr × Nat × Nat)} {gv gv' : Value} {ga : Option Addr} {gc : Nat} (h : IPh2i S B2 w0 w i us gv ga gc 6) (hi : i < S.N) (hB : S.B ≤ w.heap.size) (hLb : S.Lb < B2) (hBB : S.B ≤ B2) (h02 : w0.heap.size ≤ B2)
    (o : Obj) (hrow : w'.ownsRow B2 22 1 gv' (i + 1) (us.map isval ++ [.slice ga (S.L i + 6) gc])) (hg : (w.alloc o).grownBy w' gv.ownBlock) : IPh2 S B2 w0 w' (i + 1) (us ++ [(ga, S.L i + 6, gc)]) gv' := by
  obtain ⟨h2, ⟨cs, ho, hm, he⟩, hu, hA, hd, hTg⟩ := h
  have h2' := h2.alloc hS hB o
  have hrow0 := h2'.2.2.1
  have hkb : ∀ k, k < (w.alloc o).heap.size → (k < B2 ∨ ∃ cur, (w.alloc o).heap[k]? = some (.cells cur 3 (0, 0))) → w'.heap[k]? = (w.alloc o).heap[k]? := by
    intro k hk hx
    refine hg.block k hk (fun e => ?_)
    rcases hrow0.2 with ⟨e0, _⟩ | ⟨g, cap, cur, e0, hb, hh, _⟩
    · rw [e0] at e; cases e
    · rw [e0] at e
      simp only [Value.ownBlock, Option.some.injEq] at e
      subst e
      rcases hx with hx | ⟨cur', hx⟩
      · omega
      · rw [hh] at hx; simp at hx
  have hstay : ∀ k, k < w0.heap.size → ¬ TI S k → w'.heap[k]? = (w.alloc o).heap[k]? := by
    intro k hk0 hn
    refine hg.block k (Nat.lt_of_lt_of_le hk0 h2'.1.2.1.1.size) (fun e => ?_)
    rcases hrow0.2 with ⟨e0, _⟩ | ⟨g, cap, cur, e0, hb, hh', _⟩
    · rw [e0] at e; cases e
    · rw [e0] at e
      simp only [Value.ownBlock, Option.some.injEq] at e
      subst e
      omega
  have hkO : ∀ {a : Option Addr} {n c : Nat} {xs : List Int}, IOwn S.B (w.alloc o) a n c xs → IOwn S.B w' a n c xs := by
    intro a n c xs hO
    exact hO.kept (fun g e => hkb g (hO.lt e).1 (.inr (hO.lt e).2.2))
  have ho' : IOwn S.B (w.alloc o) ga (S.L i + 6) gc cs := ho.kept (fun g e => Below.heap_alloc w _ g (ho.lt e).1)
  have hLlt : S.Lb < (w.alloc o).heap.size := (Array.getElem?_eq_some_iff.1 h2'.1.1).1
  refine ⟨⟨(hkb _ hLlt (.inl hLb)).trans h2'.1.1, h2'.1.2.1.trans ⟨hg.os, hg.tape, hg.output, hg.size, fun k hk => hkb k (by simp; omega) (.inl (by omega))⟩ hstay, fun p hp => ?_⟩, by simp [h2.2.1], by simpa [isval] using hrow, fun p t ht => ?_, ?_⟩
  · obtain ⟨cs', hO, hc⟩ := h2'.1.2.2 p hp
    exact ⟨cs', hkO hO, hc⟩
  · by_cases hp : p < us.length
    · rw [List.getElem?_append_left hp] at ht
      obtain ⟨h1, cs', hO, hc⟩ := h2'.2.2.2.1 p t ht
      exact ⟨h1, cs', hkO hO, hc⟩
    · have hul := h2.2.1
      rw [List.getElem?_append_right (by omega)] at ht
      have hpi : p = i := by
        have := (List.getElem?_eq_some_iff.1 ht).1
        simp at this; omega
      subst hpi
      rw [hul, Nat.sub_self] at ht
      simp at ht
      subst ht
      exact ⟨rfl, cs, hkO ho', he⟩
  · intro t ht k hk hkN g e
    rcases List.mem_append.1 ht with ht | ht
    · exact h2.2.2.2.2 t ht k (by omega) hkN g e
    · simp at ht
      subst ht
      intro e2
      exact hA k hkN (by omega) g e2 e

theorem IPh2.shape {S : ILists} {B2 : Nat} {w0 w : World} {i : Nat} {us : List (Option Addr × Nat × Nat)} {gv : Value} (h : IPh2 S B2 w0 w i us gv) : ∃ a c, gv = .slice a i c := by
  rcases h.2.2.1.2 with ⟨e, e0⟩ | ⟨g, cap, cur, e, _⟩
  · exact ⟨none, 0, by rw [e, e0]⟩
  · exact ⟨_, cap, e⟩

theorem IPh2.byte {S : ILists} {B2 : Nat} {w0 w : World} {i : Nat} {us : List (Option Addr × Nat × Nat)} {gv : Value} (h : IPh2 S B2 w0 w i us gv) {k q : Nat} (hk : k < S.N) (hq : q < S.L k) :
    ∃ g, S.A k = some ⟨g, 0, none⟩ ∧ w.cell? ⟨g, q, none⟩ = some (.int .i64 (imk ((S.off k + q : Nat) : Int))) := by
  obtain ⟨cs, ho, hc⟩ := h.1.2.2 k hk
  obtain ⟨g, e, _, hcell, _⟩ := ho.cell hq
  rw [hc q hq (.inl hk)] at hcell
  exact ⟨g, e, hcell⟩

theorem IPh2.grown {S : ILists} {B2 : Nat} {w0 w : World} {i c : Nat} {us : List (Option Addr × Nat × Nat)} {a : Option Addr} (h : IPh2 S B2 w0 w i us (.slice a i c)) {k : Nat} (hk : k < i) :
    ∃ gb ua uc, a = some ⟨gb, 0, none⟩ ∧ w.cell? ⟨gb, k, none⟩ = some (.slice ua (S.L k + 6) uc) ∧ ∀ q, q < 6 → ∃ g, ua = some ⟨g, 0, none⟩ ∧ w.cell? ⟨g, S.L k + q, none⟩ = some (.int .i64 (iext S k q)) := by
  have hul := h.2.1
  obtain ⟨t, ht⟩ : ∃ t, us[k]? = some t := ⟨us[k], List.getElem?_eq_getElem (by omega)⟩
  obtain ⟨h1, cs, ho, hc⟩ := h.2.2.2.1 k t ht
  rcases h.2.2.1.2 with ⟨e, e0⟩ | ⟨g, cap, cur, e, _, hh, _, _, _, htk⟩
  · omega
  · cases e
    refine ⟨g, t.1, t.2.2, rfl, ?_, fun q hq => ?_⟩
    · have hx : (cur.toList.take (i * 1))[k]? = some (isval t) := by rw [htk, List.getElem?_map, ht]; rfl
      rw [List.getElem?_take_of_lt (by omega)] at hx
      simp only [World.cell?, hh]
      rw [← h1]
      simpa [isval] using hx
    · obtain ⟨g', e', _, hcell, _⟩ := ho.cell (j := S.L k + q) (by omega)
      rw [hc q hq] at hcell
      exact ⟨g', e', hcell⟩

theorem infoIs : (Tryz.prog.info? 22).map (fun i => (i.zero, i.size, i.bytes)) = some (some (.slice none 0 0), 1, 24) := by kernel_rfl

set_option maxRecDepth 100000 in
set_option maxHeartbeats 4000000 in
theorem iapart_any (N Lb : Nat) (S : ILists) (hS : S.Good) (w : World) (hN : S.N = N) (hLb : S.Lb = Lb) (h0 : IPh1 S w w 0 0) (hB : S.B ≤ w.heap.size) :
    Calls Tryz.prog 41 #[.slice (some ⟨Lb, 0, none⟩) N N] w fun e w' => e = .returned (.bool true) ∧ BI S.B (TI S) w w' := by
  have HS := hide hS
  have H0 := hide h0
  have hNb : N ≤ 64 := by rw [← hN]; exact hS.few
  have HN := hide hN
  have HL := hide hLb
  have HO0 := hide hS.off0
  clear hS h0 hN hLb
  go_enter Tryz.func41, Tryz.ntmps41
  go_wp2
  go_loopw [3, 4] (fun n i wr => ∃ p o : Nat, p ≤ N ∧ i = .int .i64 p ∧ n = .int .i64 o ∧ Hid (o = S.off p) ∧ Hid (IPh1 S w wr p 0)) (fun _ i _ => N - (intOf i).toNat)
  case atStart => exact ⟨0, 0, Nat.zero_le _, rfl, rfl, (unhide HO0).symm, H0⟩
  case round =>
    obtain ⟨p, o, hp, rfl, rfl, ho, hPh⟩ := hrel
    by_cases hlt : p < N
    · have hSg := unhide HS
      obtain ⟨A, hA⟩ : ∃ A, S.A p = A := ⟨_, rfl⟩
      obtain ⟨L, hL⟩ : ∃ L, S.L p = L := ⟨_, rfl⟩
      obtain ⟨C, hC⟩ : ∃ C, S.C p = C := ⟨_, rfl⟩
      have hob := hSg.off_bd p (by rw [unhide HN]; omega)
      rw [← ho.out] at hob
      have hLb : L ≤ 17592186043904 := by rw [← hL]; exact hSg.fit p (by rw [unhide HN]; exact hlt)
      have HA := hide hA
      have HLL := hide hL
      have HC := hide hC
      clear hA hL hC hSg
      go_wp2
      go_loopw [3, 5] (fun n j wr => ∃ q : Nat, q ≤ L ∧ j = .int .i64 q ∧ n = .int .i64 ((o + q : Nat) : Int) ∧ Hid (IPh1 S w wr p q)) (fun _ j _ => L - (intOf j).toNat)
      case atStart => exact ⟨0, Nat.zero_le _, rfl, rfl, hPh⟩
      case round =>
        obtain ⟨q, hq, rfl, rfl, hPh2⟩ := hrel
        have hls : wr.cell? ⟨Lb, p, none⟩ = some (.slice A L C) := by
          have := (unhide hPh2).ls (unhide HS) (p := p) (by rw [unhide HN]; exact hlt)
          rwa [unhide HL, unhide HA, unhide HLL, unhide HC] at this
        by_cases hlt2 : q < L
        · obtain ⟨g, v, eA, hcell, hfr, hPh3⟩ := (unhide hPh2).store (unhide HS) (by rw [unhide HN]; exact hlt) (by rw [unhide HLL]; exact hlt2)
          rw [unhide HA] at eA
          subst eA
          rw [← ho.out] at hPh3
          have HPh3 := hide hPh3
          clear hPh3
          have hltI : (q : Int) < (L : Int) := by omega
          go_wp2
          exact ⟨⟨q + 1, by omega, by go_num, by go_num, (by have h := unhide HPh3; unfold imk at h; exact h)⟩, by simp [intOf]; omega⟩
        · obtain rfl : q = L := by omega
          go_wp2
          exact ⟨⟨p + 1, o + q, by omega, by go_num, rfl, by show o + q = S.off (p + 1); rw [(unhide HS).offS p (by rw [unhide HN]; exact hlt), unhide HLL, ho.out], by have h := unhide hPh2; rw [← unhide HLL] at h; exact h.next⟩, by simp [intOf]; omega⟩
    · obtain rfl : p = N := by omega
      have hPhN := unhide hPh
      rw [← unhide HN] at hPhN
      have HPN := hide hPhN
      obtain ⟨B2, hB2⟩ : ∃ B2, wr.heap.size = B2 := ⟨_, rfl⟩
      have HB2 := hide hB2
      have H02 : Hid (w.heap.size ≤ B2) := by rw [← hB2]; exact hPhN.2.1.1.size
      have HLt : Hid (S.Lb < B2 ∧ S.B ≤ B2) := by
        refine ⟨?_, ?_⟩
        · rw [← hB2]; exact (Array.getElem?_eq_some_iff.1 hPhN.1).1
        · rw [← hB2]; exact Nat.le_trans hB hPhN.2.1.1.size
      have hob := (unhide HS).off_bd p (by rw [unhide HN]; omega)
      rw [← ho.out] at hob
      obtain ⟨i22, hi, hz0, hz1, hz2⟩ := info_parts infoIs
      have HI := hide (⟨hi, hz0, hz1, hz2⟩ : Tryz.prog.info? 22 = some i22 ∧ i22.zero = some (.slice none 0 0) ∧ i22.size = 1 ∧ i22.bytes = 24)
      have HST : Hid (IPh2 S B2 w wr 0 [] (.slice none 0 0)) := IPh2.start hPhN
      clear hi hz0 hz1 hz2 hB2 hPh hPhN HPN H0 hlt
      go_wp2
      go_loopw [6, 7, 8] (fun gr kk i wr => ∃ (m : Nat) (us : List (Option Addr × Nat × Nat)), m ≤ p ∧ i = .int .i64 m ∧ kk = .int .i64 ((o + 6 * m : Nat) : Int) ∧ Hid (IPh2 S B2 w wr m us gr) ∧ Hid (B2 ≤ wr.heap.size)) (fun _ _ i _ => p - (intOf i).toNat)
      case atStart => exact ⟨0, [], Nat.zero_le _, rfl, rfl, HST, Nat.le_of_eq (unhide HB2).symm⟩
      case round =>
        obtain ⟨m, us, hm, rfl, rfl, hPh2, hsz⟩ := hrel
        clear HB2 HST
        by_cases hlt : m < p
        · obtain ⟨A, hA⟩ : ∃ A, S.A m = A := ⟨_, rfl⟩
          obtain ⟨L, hL⟩ : ∃ L, S.L m = L := ⟨_, rfl⟩
          obtain ⟨C, hC⟩ : ∃ C, S.C m = C := ⟨_, rfl⟩
          have hls : wr.cell? ⟨Lb, m, none⟩ = some (.slice A L C) := by
            have := (unhide hPh2).1.ls (unhide HS) (p := m) (by rw [unhide HN]; exact hlt)
            rwa [unhide HL, hA, hL, hC] at this
          have hLb : L ≤ 17592186043904 := by rw [← hL]; exact (unhide HS).fit m (by rw [unhide HN]; exact hlt)
          have HLL := hide hL
          have HI0 : Hid (IPh2i S B2 w wr m us u6 A C 0) := by
            have := IPh2i.start (unhide HS) (unhide hPh2) (by rw [unhide HN]; exact hlt)
            rwa [hA, hC] at this
          clear hA hL hC
          go_wp2
          go_loopw [7, 9, 10] (fun kk g j wr => ∃ (q : Nat) (ga : Option Addr) (gc : Nat), q ≤ 6 ∧ j = .int .i64 q ∧ kk = .int .i64 ((o + 6 * m + q : Nat) : Int) ∧ g = .slice ga (L + q) gc ∧ Hid (IPh2i S B2 w wr m us u6 ga gc q) ∧ Hid (B2 ≤ wr.heap.size)) (fun _ _ j _ => 6 - (intOf j).toNat)
          case atStart => exact ⟨0, A, C, by omega, rfl, rfl, rfl, HI0, hsz⟩
          case round =>
            obtain ⟨q, ga, gc, hq, rfl, rfl, rfl, hPi, hsz2⟩ := hrel
            by_cases hlt2 : q < 6
            · have hzz : iext S m q = (o : Int) + 6 * (m : Int) + (q : Int) := by
                unfold iext imk
                rw [unhide HN, ← ho.out]
                omega
              obtain ⟨a', c', w', hrun, hPi', hsz3⟩ := (unhide hPi).step (unhide HS) (by rw [unhide HN]; exact hlt) hlt2 (Nat.le_trans (unhide HLt).2 hsz2.out)
              rw [hzz, unhide HLL] at hrun
              have HR := hide hrun
              have HP' := hide hPi'
              have HZ3 : Hid (B2 ≤ w'.heap.size) := Nat.le_trans hsz2.out hsz3
              clear hrun hPi' hsz3 hzz
              go_wp2_with (at_builtin; refine wpList_append_run 22 rfl _ _ rfl _ _ _ rfl rfl (unhide HR) ?_)
              exact ⟨⟨q + 1, a', c', by omega, by go_num, by go_num, rfl, HP', HZ3⟩, by simp [intOf]; omega⟩
            · obtain rfl : q = 6 := by omega
              have hrw := (unhide hPi).1.2.2.1
              have HRW : Hid ((wr.alloc (.cells #[.slice ga (L + 6) gc] 22)).ownsRow B2 22 1 u6 m (us.map isval)) := hrw.alloc _
              have HNW : Hid (∀ (j : Nat) (u : Value), [Value.slice ga (L + 6) gc][j]? = some u → (wr.alloc (.cells #[.slice ga (L + 6) gc] 22)).cell? ((⟨wr.heap.size, 0, none⟩ : Addr).add j) = some u) := by
                intro j u hj
                cases j with
                | zero => simp at hj; subst hj; rw [World.add_zero_spot]; exact (Boxed.new wr 22 _).cell
                | succ j => simp at hj
              have HM : Hid (m + 1 ≤ maxLen ∧ (m + 1) * 24 ≤ 140737488355328) := ⟨by unfold maxLen; omega, by omega⟩
              have HBs : Hid (B2 ≤ (wr.alloc (.cells #[.slice ga (L + 6) gc] 22)).heap.size) := Nat.le_trans hsz2.out (by simp)
              have HOC : Hid (∀ u ∈ [Value.slice ga (L + 6) gc], u.oneCell' = true) := by intro u hu; simp at hu; subst hu; rfl
              clear hrw
              go_wp2_with (at_builtin; refine wpList_append_own _ rfl _ _ 71 rfl B2 22 i22 (.slice none 0 0) 1 24 Tryz.underlying71 (unhide HI).1 (unhide HI).2.1 (unhide HI).2.2.1 (unhide HI).2.2.2 rfl (by decide) u6 m (us.map isval) rfl (unhide HRW) ⟨wr.heap.size, 0, none⟩ 1 1 [.slice ga (L + 6) gc] rfl rfl (unhide HNW) (unhide HOC) (unhide HM).1 (unhide HM).2 (unhide HBs) ?_; intro gv' w5 hrow hgrow _)
              refine ⟨⟨m + 1, us ++ [(ga, S.L m + 6, gc)], by omega, by go_num, by go_num, ?_, Nat.le_trans (unhide HBs) hgrow.size⟩, by simp [intOf]; omega⟩
              rw [← unhide HLL] at hrow
              exact (unhide hPi).done (unhide HS) (by rw [unhide HN]; exact hlt) (Nat.le_trans (unhide HLt).2 hsz2.out) (unhide HLt).1 (unhide HLt).2 (unhide H02) _ hrow hgrow
        · obtain rfl : m = p := by omega
          obtain ⟨gva, gvc, rfl⟩ := (unhide hPh2).shape
          clear HLt HI hsz hlt
          go_wp2
          go_loopw [3, 11] (fun n i wr => ∃ k oo : Nat, k ≤ m ∧ i = .int .i64 k ∧ n = .int .i64 oo ∧ Hid (oo = S.off k) ∧ Hid (IPh2 S B2 w wr m us (.slice gva m gvc))) (fun _ i _ => m - (intOf i).toNat)
          case atStart => exact ⟨0, 0, Nat.zero_le _, rfl, rfl, (unhide HO0).symm, hPh2⟩
          case round =>
            obtain ⟨k, oo, hk, rfl, rfl, hoo, hP3⟩ := hrel
            clear hPh2
            by_cases hlt : k < m
            · obtain ⟨A, hA⟩ : ∃ A, S.A k = A := ⟨_, rfl⟩
              obtain ⟨L, hL⟩ : ∃ L, S.L k = L := ⟨_, rfl⟩
              obtain ⟨C, hC⟩ : ∃ C, S.C k = C := ⟨_, rfl⟩
              have hLb : L ≤ 17592186043904 := by rw [← hL]; exact (unhide HS).fit k (by rw [unhide HN]; exact hlt)
              have hob2 := (unhide HS).off_bd k (by rw [unhide HN]; omega)
              rw [← hoo.out] at hob2
              have HA := hide hA
              have HLL := hide hL
              have HC := hide hC
              clear hA hL hC
              go_wp2
              go_loopw [3, 12] (fun n j wr => ∃ q : Nat, q ≤ L ∧ j = .int .i64 q ∧ n = .int .i64 ((oo + q : Nat) : Int) ∧ Hid (IPh2 S B2 w wr m us (.slice gva m gvc))) (fun _ j _ => L - (intOf j).toNat)
              case atStart => exact ⟨0, Nat.zero_le _, rfl, rfl, hP3⟩
              case round =>
                obtain ⟨q, hq, rfl, rfl, hP4⟩ := hrel
                clear hP3
                have hls : wr.cell? ⟨Lb, k, none⟩ = some (.slice A L C) := by
                  have := (unhide hP4).1.ls (unhide HS) (p := k) (by rw [unhide HN]; exact hlt)
                  rwa [unhide HL, unhide HA, unhide HLL, unhide HC] at this
                by_cases hlt2 : q < L
                · obtain ⟨g, eA, hcell⟩ := (unhide hP4).byte (k := k) (q := q) (by rw [unhide HN]; exact hlt) (by rw [unhide HLL]; exact hlt2)
                  rw [unhide HA] at eA
                  subst eA
                  rw [← hoo.out, Int.natCast_add] at hcell
                  unfold imk at hcell
                  have hltI : (q : Int) < (L : Int) := by omega
                  have hltK : (k : Int) < (m : Int) := by omega
                  go_wp2
                  exact ⟨⟨q + 1, by omega, by go_num, by go_num, hP4⟩, by simp [intOf]; omega⟩
                · obtain rfl : q = L := by omega
                  go_wp2
                  exact ⟨⟨k + 1, oo + q, by omega, by go_num, rfl, by show oo + q = S.off (k + 1); rw [(unhide HS).offS k (by rw [unhide HN]; exact hlt), unhide HLL, hoo.out], hP4⟩, by simp [intOf]; omega⟩
            · obtain rfl : k = m := by omega
              have hoe : oo = o := by rw [hoo.out, ho.out]
              subst hoe
              clear hoo hlt
              go_wp2
              go_loopw [3, 13] (fun n i wr => ∃ m : Nat, m ≤ k ∧ i = .int .i64 m ∧ n = .int .i64 ((oo + 6 * m : Nat) : Int) ∧ Hid (IPh2 S B2 w wr k us (.slice gva k gvc))) (fun _ i _ => k - (intOf i).toNat)
              case atStart => exact ⟨0, Nat.zero_le _, rfl, rfl, hP3⟩
              case round =>
                obtain ⟨m, hm4, rfl, rfl, hP5⟩ := hrel
                clear hP3
                by_cases hlt : m < k
                · obtain ⟨A, hA⟩ : ∃ A, S.A m = A := ⟨_, rfl⟩
                  obtain ⟨L, hL⟩ : ∃ L, S.L m = L := ⟨_, rfl⟩
                  obtain ⟨C, hC⟩ : ∃ C, S.C m = C := ⟨_, rfl⟩
                  have hLb : L ≤ 17592186043904 := by rw [← hL]; exact (unhide HS).fit m (by rw [unhide HN]; exact hlt)
                  have hls : wr.cell? ⟨Lb, m, none⟩ = some (.slice A L C) := by
                    have := (unhide hP5).1.ls (unhide HS) (p := m) (by rw [unhide HN]; exact hlt)
                    rwa [unhide HL, hA, hL, hC] at this
                  have HLL := hide hL
                  clear hA hL hC
                  go_wp2
                  go_loopw [3, 14] (fun n j wr => ∃ q : Nat, q ≤ 6 ∧ j = .int .i64 ((L + q : Nat) : Int) ∧ n = .int .i64 ((oo + 6 * m + q : Nat) : Int) ∧ Hid (IPh2 S B2 w wr k us (.slice gva k gvc))) (fun _ j _ => L + 6 - (intOf j).toNat)
                  case atStart => exact ⟨0, by omega, rfl, rfl, hP5⟩
                  case round =>
                    obtain ⟨q, hq, rfl, rfl, hP6⟩ := hrel
                    clear hP5 hls
                    obtain ⟨gb, ua, uc, e, hgc, hgx⟩ := (unhide hP6).grown hlt
                    subst e
                    rw [unhide HLL] at hgc
                    have HGX := hide hgx
                    clear hgx
                    have hltK : (m : Int) < (k : Int) := by omega
                    by_cases hlt2 : q < 6
                    · obtain ⟨g, e2, hcell⟩ := unhide HGX q hlt2
                      subst e2
                      have hext : iext S m q = (oo : Int) + 6 * (m : Int) + (q : Int) := by
                        unfold iext imk
                        rw [unhide HN, ← ho.out]
                        omega
                      rw [unhide HLL, hext] at hcell
                      clear hext HGX
                      have hltI : ((L + q : Nat) : Int) < ((L + 6 : Nat) : Int) := by omega
                      go_wp2
                      exact ⟨⟨q + 1, by omega, by go_num, by go_num, hP6⟩, by simp [intOf]; omega⟩
                    · obtain rfl : q = 6 := by omega
                      clear HGX
                      go_wp2
                      exact ⟨⟨m + 1, by omega, by go_num, by go_num, hP6⟩, by simp [intOf]; omega⟩
                · obtain rfl : m = k := by omega
                  go_wp2
                  go_ret
                  exact ⟨rfl, (unhide hP5).1.2.1⟩

abbrev ITrip := Option Addr × Nat × Nat

def itripAt (ts : List ITrip) (p : Nat) : ITrip := ts[p]?.getD (none, 0, 0)

def isumTo (ts : List ITrip) : Nat → Nat
  | 0 => 0
  | p + 1 => isumTo ts p + (itripAt ts p).2.1

def ilistsOf (B Lb : Nat) (ts : List ITrip) : ILists :=
  { N := ts.length, B := B, Lb := Lb, ca := (ts.map isval).toArray, A := fun p => (itripAt ts p).1, L := fun p => (itripAt ts p).2.1, C := fun p => (itripAt ts p).2.2, off := isumTo ts }

def IAside (t u : ITrip) : Prop := ∀ g, t.1 = some ⟨g, 0, none⟩ → u.1 ≠ some ⟨g, 0, none⟩

theorem itripAt_eq {ts : List ITrip} {p : Nat} (h : p < ts.length) : itripAt ts p = ts[p] := by simp [itripAt, List.getElem?_eq_getElem h]

theorem ilistsOf_good {B Lb : Nat} {ts : List ITrip} (h1 : ts.length ≤ 64) (h2 : ∀ t ∈ ts, t.2.1 ≤ 17592186043904) (h3 : B ≤ Lb) (h4 : ts.Pairwise IAside) : (ilistsOf B Lb ts).Good where
  few := h1
  size := by simp [ilistsOf]
  at' := fun p hp => by
    have hp' : p < ts.length := hp
    simp [ilistsOf, itripAt, List.getElem?_eq_getElem hp', isval]
  off0 := rfl
  offS := fun p hp => rfl
  fit := fun p hp => by
    have hp' : p < ts.length := hp
    show (itripAt ts p).2.1 ≤ _
    rw [itripAt_eq hp']; exact h2 _ (List.getElem_mem hp')
  base := h3
  apart := fun p p' hp hp' hne g e e' => by
    have hq : p < ts.length := hp
    have hq' : p' < ts.length := hp'
    have k1 : (itripAt ts p).1 = some ⟨g, 0, none⟩ := e
    have k2 : (itripAt ts p').1 = some ⟨g, 0, none⟩ := e'
    rw [itripAt_eq hq] at k1
    rw [itripAt_eq hq'] at k2
    rcases Nat.lt_or_ge p p' with hlt | hge
    · exact List.pairwise_iff_getElem.1 h4 p p' hq hq' hlt g k1 k2
    · exact List.pairwise_iff_getElem.1 h4 p' p hq' hq (by omega) g k2 k1

theorem ilistsOf_ph1 {B Lb : Nat} {ts : List ITrip} {w : World} (hL : w.heap[Lb]? = some (.cells (ts.map isval).toArray 22 (0, 0))) (ho : ∀ t ∈ ts, ∃ xs, IOwn B w t.1 t.2.1 t.2.2 xs) : IPh1 (ilistsOf B Lb ts) w w 0 0 := by
  refine ⟨hL, BI.refl _ _ _, fun p hp => ?_⟩
  have hp' : p < ts.length := hp
  obtain ⟨xs, hx⟩ := ho _ (List.getElem_mem hp')
  refine ⟨xs, ?_, fun q _ h => by omega⟩
  show IOwn B w (itripAt ts p).1 (itripAt ts p).2.1 (itripAt ts p).2.2 xs
  rw [itripAt_eq hp']
  exact hx

theorem iapart_list (B Lb N : Nat) (ts : List ITrip) (w : World) (hN : ts.length = N) (h1 : N ≤ 64) (h2 : ∀ t ∈ ts, t.2.1 ≤ 17592186043904) (h3 : B ≤ Lb) (h4 : ts.Pairwise IAside) (hL : w.heap[Lb]? = some (.cells (ts.map isval).toArray 22 (0, 0)))
    (ho : ∀ t ∈ ts, ∃ xs, IOwn B w t.1 t.2.1 t.2.2 xs) :
    Calls Tryz.prog 41 #[.slice (some ⟨Lb, 0, none⟩) N N] w fun e w' => e = .returned (.bool true) ∧ BI B (TI (ilistsOf B Lb ts)) w w' :=
  iapart_any N Lb (ilistsOf B Lb ts) (ilistsOf_good (by omega) h2 h3 h4) w hN rfl (ilistsOf_ph1 hL ho) (by
    have := (Array.getElem?_eq_some_iff.1 hL).1
    show B ≤ _
    omega)

theorem iaside_of {w w' : World} {t u : ITrip} {xs ys : List Int} {B n : Nat} (h1 : IOwn B w t.1 t.2.1 t.2.2 xs) (h2 : IOwn n w' u.1 u.2.1 u.2.2 ys) (hn : w.heap.size ≤ n) : IAside t u := by
  intro g e e'
  have k1 := (h1.lt e).1
  have k2 := (h2.lt e').2.1
  omega

end Go.Proofs.YtdkicniciciobaaGreatDoor.FA

/- The table stays; rows of bytes. -/
namespace Go.Proofs.YtdkicniciciobaaGreatDoor
open Go.RowKit Go.Shelf
set_option linter.unusedVariables false

theorem tab_size {w : World} (h : Tab w) : 0 < w.heap.size := by
  have h0 := h 0 (by omega)
  cases hb : w.heap[0]? with
  | none => simp [World.cell?, hb] at h0
  | some o => exact (Array.getElem?_eq_some_iff.1 hb).1

theorem Tab.below {n : Nat} {w w' : World} (h : Tab w) (hb : Below n w w') (hn : 0 < n) : Tab w' := fun k hk => (hb.cell (p := ⟨0, k, none⟩) hn).trans (h k hk)

theorem Row.byts {n : Nat} {w : World} {a : Option Addr} {len cap : Nat} {zs : List Int} (h : Row n w a len cap zs) : Byts zs := h.2.2.2.1

end Go.Proofs.YtdkicniciciobaaGreatDoor

