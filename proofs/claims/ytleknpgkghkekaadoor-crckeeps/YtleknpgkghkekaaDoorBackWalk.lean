/- CrcBack's walk. -/
import Derived.Test.YtleknpgkghkekaaDoorBackMath
import Derived.Test.YtleknpgkghkekaaDoorGSame
namespace Go.Proofs.YtleknpgkghkekaaDoor
open Go.RowKit Go.Shelf
set_option linter.unusedVariables false

theorem Own.row {B : Nat} {w : World} {a : Option Addr} {n c : Nat} {xs : List Int} (h : Own B w a n c xs) (hb : Byts xs) (hn : n ≤ 140737488351232) : Row w.heap.size w a n c xs := by
  have hc := h.2.2.1
  unfold maxLen at hc
  refine ⟨h.1, h.2.1, ⟨hn, by omega⟩, hb, fun hp => ?_⟩
  obtain ⟨b, off, e, hcs⟩ := h.has.2 hp
  exact ⟨b, off, e, cell_block_lt (hcs 0 hp), hcs⟩

theorem Has.later {w w' : World} {a : Option Addr} {len : Nat} {zs : List Int} (h : Has w a len zs) (hb : Below w.heap.size w w') : Has w' a len zs := by
  refine ⟨h.1, fun hp => ?_⟩
  obtain ⟨b, off, e, hc⟩ := h.2 hp
  refine ⟨b, off, e, fun j hj => ?_⟩
  have := hc j hj
  rw [hb.cell (p := ⟨b, off + j, none⟩) (cell_block_lt this)]
  exact this

theorem own_bare (w : World) : Own w.heap.size (w.alloc (.cells #[] 5)) (some ⟨w.heap.size, 0, none⟩) 0 0 [] :=
  ⟨rfl, Nat.le_refl _, by unfold maxLen; omega, .inr ⟨w.heap.size, #[], rfl, Nat.le_refl _, World.alloc_heap_new w _, rfl, rfl⟩⟩

theorem byts_append {xs ys : List Int} (h1 : Byts xs) (h2 : Byts ys) : Byts (xs ++ ys) := by
  intro z hz
  rw [List.mem_append] at hz
  rcases hz with hz | hz
  · exact h1 z hz
  · exact h2 z hz

/-- append([]byte{}, x...). -/
theorem app_one {w : World} {a : Option Addr} {n c : Nat} {xs : List Int} (h : Has w a n xs) (hn : n ≤ 140737488351232) :
    ∃ a1 c1 w1, (∀ ty, (Builtin.append_ #[22, 22] ty #[.slice (some ⟨w.heap.size, 0, none⟩) 0 0, .slice a n c]).run Tryd.prog (w.alloc (.cells #[] 5)) = .ok (.slice a1 n c1) w1) ∧ Hid (Own w.heap.size w1 a1 n c1 xs ∧ Below w.heap.size w w1) := by
  have hb0 : Below w.heap.size w (w.alloc (.cells #[] 5)) := (Below.refl _ w).alloc (Nat.le_refl _) _
  obtain ⟨a1, c1, w1, r1, o1, _, b1⟩ := run_append_bytes (own_bare w) hb0.size c (h.later hb0) (by omega)
  rw [Nat.zero_add] at r1 o1
  exact ⟨a1, c1, w1, r1, o1, hb0.trans b1⟩

/-- append(append([]byte{}, x...), y...). -/
theorem app_two {w : World} {a b : Option Addr} {n c m d : Nat} {xs ys : List Int} (h : Has w a n xs) (h' : Has w b m ys) (hn : n ≤ 1000000) (hm : m ≤ 1000000) :
    ∃ a1 c1 w1 a2 c2 w2, (∀ ty, (Builtin.append_ #[22, 22] ty #[.slice (some ⟨w.heap.size, 0, none⟩) 0 0, .slice a n c]).run Tryd.prog (w.alloc (.cells #[] 5)) = .ok (.slice a1 n c1) w1) ∧
      (∀ ty, (Builtin.append_ #[22, 22] ty #[.slice a1 n c1, .slice b m d]).run Tryd.prog w1 = .ok (.slice a2 (n + m) c2) w2) ∧ Hid (Own w.heap.size w2 a2 (n + m) c2 (xs ++ ys) ∧ Below w.heap.size w w2) := by
  obtain ⟨a1, c1, w1, r1, h1⟩ := app_one (c := c) h (by omega)
  obtain ⟨o1, b1⟩ := unhide h1
  obtain ⟨a2, c2, w2, r2, o2, _, b2⟩ := run_append_bytes o1 b1.size d (h'.later b1) (by omega)
  exact ⟨a1, c1, w1, a2, c2, w2, r1, r2, o2, b1.trans b2⟩

/-- Unframe of a whole frame. -/
theorem un_whole {B : Nat} {w : World} {a : Option Addr} {n c : Nat} {all zs r : List Int} (h : Own B w a n c all) (hb : Byts all) (hn : n ≤ 2000000) (at0 : Nat) (hat : at0 ≤ n) (e : all.drop at0 = frameB zs ++ r) (hz : Byts zs) (hl : zs.length ≤ 65535) (hT : Tab w) (m nx : Nat) (hm : zs.length = m) (hnx : at0 + m + 6 = nx) :
    Calls Tryd.prog 16 #[.slice a n c, .int .i64 (at0 : Int)] w fun e w' => ∃ a' c', e = .returned (.tuple #[.slice a' m c', .int .i64 (nx : Int), .int .i64 0]) ∧ Hid (Has w' a' m zs ∧ Below w.heap.size w w') := by
  subst hm hnx
  refine (unframe_in a n c all at0 w (h.row hb (by omega)) hT hat).mono ?_
  rw [e]
  rintro e' w' ⟨⟨hq, _⟩ | ⟨_, a', c', rfl, hO⟩, hb'⟩
  · exact absurd (restE_frame zs r hz hl) hq
  · rw [frame_size zs r hl, frame_pay] at hO
    rw [frame_size zs r hl]
    exact ⟨a', c', ret_three (by omega), hO.has, hb'⟩

/-- Unframe of what is refused. -/
theorem un_refused {w : World} {a : Option Addr} {n c : Nat} {all : List Int} (hr : Row w.heap.size w a n c all) (hT : Tab w) (q : Int) (hq : restE all = q) (hq0 : q ≠ 0) :
    Calls Tryd.prog 16 #[.slice a n c, .int .i64 0] w fun e w' => e = .returned (.tuple #[.slice none 0 0, .int .i64 0, .int .i64 q]) ∧ Below w.heap.size w w' := by
  subst hq
  refine (unframe_in a n c all 0 w hr hT (Nat.zero_le _)).mono ?_
  rw [List.drop_zero]
  rintro e' w' ⟨⟨_, rfl⟩ | ⟨h, _⟩, hb'⟩
  · exact ⟨rfl, hb'⟩
  · exact absurd h hq0

set_option maxHeartbeats 1000000 in
theorem back_bad1 (ax ay : Option Addr) (lx cx ly cy : Nat) (xs ys : List Int) (i x : Int) (w : World) (hrx : Row w.heap.size w ax lx cx xs) (hry : Row w.heap.size w ay ly cy ys) (hT : Tab w) (h : 65535 < lx) :
    Calls Tryd.prog 7 #[.slice ax lx cx, .slice ay ly cy, .int .i64 i, .int .u8 x] w fun e w' => e = .returned (.bool true) ∧ Below w.heap.size w w' := by
  have hTs := tab_size hT
  have hlx := hrx.2.2.1.1
  have hly := hry.2.2.1.1
  have KW := hide (wakes_any w hT)
  have K1 : Hid (∀ w1, Calls Tryd.prog 14 #[.slice ax lx cx] w1 fun e w' => e = .returned (.tuple #[.slice none 0 0, .int .i64 5]) ∧ w1 = w') := fun w1 => frame_bad ax lx cx w1 h hlx
  have K2 : Hid (∀ w1, Below w.heap.size w w1 → Calls Tryd.prog 14 #[.slice ay ly cy] w1 fun e w' => ∃ a' n' c' q, e = .returned (.tuple #[.slice a' n' c', .int .i64 q]) ∧ Below w.heap.size w w') := by
    intro w1 hb
    by_cases h2 : 65535 < ly
    · refine (frame_bad ay ly cy w1 h2 hly).mono ?_
      rintro e w' ⟨rfl, rfl⟩
      exact ⟨none, 0, 0, 5, rfl, hb⟩
    · refine (frame_good ay ly cy ys w1 (hry.below hb hb.size) (hT.below hb hTs) (by omega)).mono ?_
      rintro e w' ⟨a', c', rfl, _, hb'⟩
      exact ⟨a', _, c', 0, rfl, Below.chain hb hb' (Nat.le_refl _)⟩
  have hI : (65535 : Int) < (lx : Int) := by omega
  clear hrx hry hT
  go_enter Tryd.func7, Tryd.ntmps7
  go_wp2_with (go_at_call 9; refine (unhide KW).mono ?_; rintro e w1 ⟨rfl, hb1⟩)
  go_at_call 14
  refine (unhide K1 _).mono ?_
  rintro e w2 ⟨rfl, rfl⟩
  go_wp2_with fail
  go_at_call 14
  refine (unhide K2 _ hb1).mono ?_
  rintro e w3 ⟨a', n', c', q, rfl, hb3⟩
  go_wp2_with fail
  go_ret
  exact ⟨rfl, hb3⟩

set_option maxHeartbeats 1000000 in
theorem back_bad2 (ax ay : Option Addr) (lx cx ly cy : Nat) (xs ys : List Int) (i x : Int) (w : World) (hrx : Row w.heap.size w ax lx cx xs) (hry : Row w.heap.size w ay ly cy ys) (hT : Tab w) (h0 : lx ≤ 65535) (h : 65535 < ly) :
    Calls Tryd.prog 7 #[.slice ax lx cx, .slice ay ly cy, .int .i64 i, .int .u8 x] w fun e w' => e = .returned (.bool true) ∧ Below w.heap.size w w' := by
  have hTs := tab_size hT
  have hlx := hrx.2.2.1.1
  have hly := hry.2.2.1.1
  have KW := hide (wakes_any w hT)
  have K1 : Hid (∀ w1, Below w.heap.size w w1 → Calls Tryd.prog 14 #[.slice ax lx cx] w1 fun e w' => ∃ a' n' c', e = .returned (.tuple #[.slice a' n' c', .int .i64 0]) ∧ Below w.heap.size w w') := by
    intro w1 hb
    refine (frame_good ax lx cx xs w1 (hrx.below hb hb.size) (hT.below hb hTs) (by omega)).mono ?_
    rintro e w' ⟨a', c', rfl, _, hb'⟩
    exact ⟨a', _, c', rfl, Below.chain hb hb' (Nat.le_refl _)⟩
  have K2 : Hid (∀ w1, Calls Tryd.prog 14 #[.slice ay ly cy] w1 fun e w' => e = .returned (.tuple #[.slice none 0 0, .int .i64 5]) ∧ w1 = w') := fun w1 => frame_bad ay ly cy w1 h hly
  have hI : (65535 : Int) < (ly : Int) := by omega
  have hI2 : ¬ (65535 : Int) < (lx : Int) := by omega
  clear hrx hry hT
  go_enter Tryd.func7, Tryd.ntmps7
  go_wp2_with (go_at_call 9; refine (unhide KW).mono ?_; rintro e w1 ⟨rfl, hb1⟩)
  go_at_call 14
  refine (unhide K1 _ hb1).mono ?_
  rintro e w2 ⟨a', n', c', rfl, hb2⟩
  go_wp2_with fail
  go_at_call 14
  refine (unhide K2 _).mono ?_
  rintro e w3 ⟨rfl, rfl⟩
  go_wp2_with fail
  go_ret
  exact ⟨rfl, hb2⟩

end Go.Proofs.YtleknpgkghkekaaDoor
