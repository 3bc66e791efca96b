/- The contracts of refuses, refusesData, find, Clone and of the device's Write. -/
import Derived.Test.YtpkhllpghjldhaaKBase
namespace Go.Proofs.Ytpkhllpghjldhaa
open Go.RowKit Go.Shelf
set_option linter.unusedVariables false

/-- What Write answers, and leaves. -/
def Dev.wE (D : Dev) : Int := if D.f = 0 ∨ D.dead = true then 7 else 0

def Dev.wD (D : Dev) (i : Nat) (zs : List Int) : Dev := if D.f = 0 ∨ D.dead = true then D.die else if (D.Y i).length < 400 then D.burn.add i zs else (D.burn.shift i).add i zs

theorem Dev.wD_n (D : Dev) (i : Nat) (zs : List Int) : (D.wD i zs).n = D.n ∧ (D.wD i zs).blk = D.blk := by
  unfold Dev.wD
  split
  · exact ⟨rfl, rfl⟩
  · split <;> exact ⟨rfl, rfl⟩

theorem write_any (g i : Nat) (a : Option Addr) (cap : Nat) (zs : List Int) (S : Nat → Prop) (D : Dev) (w : World) (hD : Dv w S g D) (hi : i < D.n) (hr : Row w.heap.size w a D.blk cap zs) (ho : Out S D.blk a) :
    Calls Try.prog 59 #[.pointer (some ⟨g, 0, none⟩), .int .i64 i, .slice a D.blk cap] w fun e w' => e = .returned (.int .i64 D.wE) ∧ ∃ S', Dv w' S' g (D.wD i zs) ∧ Nx S w S' w' := by
  by_cases hb : D.f = 0 ∨ D.dead = true
  · have e1 : D.wE = 7 := if_pos hb
    have e2 : D.wD i zs = D.die := if_pos hb
    rw [e1, e2]
    refine (write_dies g i a cap S D w hD hi hb).mono ?_
    rintro e w' ⟨rfl, h1, h2⟩
    exact ⟨rfl, S, h1, h2⟩
  · have e1 : D.wE = 0 := if_neg hb
    by_cases hy : (D.Y i).length < 400
    · have e2 : D.wD i zs = D.burn.add i zs := by unfold Dev.wD; rw [if_neg hb, if_pos hy]
      rw [e1, e2]
      exact write_ok g i a cap zs S D w hD hi hb hr ho hy
    · have e2 : D.wD i zs = (D.burn.shift i).add i zs := by unfold Dev.wD; rw [if_neg hb, if_neg hy]
      rw [e1, e2]
      exact write_full g i a cap zs S D w hD hi hb hr ho (by have := hD.ok.y i hi; omega)

/-- Is it a block? -/
def rangeE (n : Nat) (b : Int) : Int := if ¬ (0 ≤ b ∧ b < n) then 2 else 0

theorem refuses_nil (b : Int) (w : World) : Calls Try.prog 34 #[.pointer none, .int .i64 b] w fun e w' => e = .returned (.int .i64 1) ∧ w = w' := by
  go_enter Try.func34, Try.ntmps34
  go_wp2
  go_ret
  exact ⟨rfl, rfl⟩

theorem refuses_cc (g dg : Nat) (b : Int) (S Sd : Nat → Prop) (C : Cac) (D : Dev) (m : KMem) (w : World) (h : CcM w S g dg D.n D.blk C m) (hD : Dv w Sd dg D) :
    Calls Try.prog 34 #[.pointer (some ⟨g, 0, none⟩), .int .i64 b] w fun e w' => e = .returned (.int .i64 (rangeE D.n b)) ∧ w = w' := by
  obtain ⟨c0, _⟩ := h.cells
  obtain ⟨md, hDM⟩ := hD
  have c1 := hDM.cells.2.1
  have K := hide (blocks_dev dg md.h D.n w c1)
  have hn := hDM.ok.n2
  unfold rangeE
  clear h hDM c1
  generalize D.n = nn at *
  by_cases h0 : b < 0
  · rw [if_pos (by omega)]
    go_enter Try.func34, Try.ntmps34
    go_wp2
    go_ret
    exact ⟨rfl, rfl⟩
  · by_cases h1 : b < nn
    · rw [if_neg (by omega)]
      go_enter Try.func34, Try.ntmps34
      go_wp2_with (go_at_call 55; refine (unhide K).mono ?_; rintro e w' ⟨rfl, rfl⟩)
      go_ret
      exact ⟨rfl, rfl⟩
    · rw [if_pos (by omega)]
      go_enter Try.func34, Try.ntmps34
      go_wp2_with (go_at_call 55; refine (unhide K).mono ?_; rintro e w' ⟨rfl, rfl⟩)
      go_ret
      exact ⟨rfl, rfl⟩

theorem refusesData_nil (b : Int) (x : Value) (w : World) : Calls Try.prog 31 #[.pointer none, .int .i64 b, x] w fun e w' => e = .returned (.int .i64 1) ∧ w = w' := by
  go_enter Try.func31, Try.ntmps31
  go_wp2_with (go_at_call 34; refine (refuses_nil b w).mono ?_; rintro e w' ⟨rfl, rfl⟩)
  go_ret
  exact ⟨rfl, rfl⟩

theorem refusesData_cc (g dg : Nat) (b : Int) (a : Option Addr) (len cap : Nat) (S Sd : Nat → Prop) (C : Cac) (D : Dev) (m : KMem) (w : World) (h : CcM w S g dg D.n D.blk C m) (hD : Dv w Sd dg D) :
    Calls Try.prog 31 #[.pointer (some ⟨g, 0, none⟩), .int .i64 b, .slice a len cap] w fun e w' => e = .returned (.int .i64 (refE D b len)) ∧ w = w' := by
  have K := refuses_cc g dg b S Sd C D m w h hD
  obtain ⟨c0, _⟩ := h.cells
  obtain ⟨md, hDM⟩ := hD
  have B := hide (block_dev dg w D.blk hDM.cells.1)
  unfold rangeE at K
  unfold refE
  clear h hDM
  generalize D.n = nn at *
  generalize D.blk = bb at *
  by_cases h0 : 0 ≤ b ∧ b < nn
  · rw [if_neg (by omega)] at K
    rw [if_neg (by omega)]
    replace K := hide K
    by_cases h1 : len = bb
    · subst h1
      rw [if_neg (by simp)]
      go_enter Try.func31, Try.ntmps31
      go_wp2_with (first | (go_at_call 34; refine (unhide K).mono ?_; rintro e w' ⟨rfl, rfl⟩) | (go_at_call 52; refine (unhide B).mono ?_; rintro e w' ⟨rfl, rfl⟩))
      go_ret
      exact ⟨rfl, rfl⟩
    · rw [if_pos h1]
      have d1 : ((len : Int) != (bb : Int)) = true := by simpa using fun e : (len : Int) = bb => h1 (by omega)
      go_enter Try.func31, Try.ntmps31
      go_wp2_with (first | (go_at_call 34; refine (unhide K).mono ?_; rintro e w' ⟨rfl, rfl⟩) | (go_at_call 52; refine (unhide B).mono ?_; rintro e w' ⟨rfl, rfl⟩))
      go_ret
      exact ⟨rfl, rfl⟩
  · rw [if_pos h0] at K
    rw [if_pos h0]
    replace K := hide K
    go_enter Try.func31, Try.ntmps31
    go_wp2_with (go_at_call 34; refine (unhide K).mono ?_; rintro e w' ⟨rfl, rfl⟩)
    go_ret
    exact ⟨rfl, rfl⟩

theorem find_nil (b : Int) (w : World) : Calls Try.prog 38 #[.pointer none, .int .i64 b] w fun e w' => e = .returned (.tuple #[.pointer none, .int .i64 1]) ∧ w = w' := by
  go_enter Try.func38, Try.ntmps38
  go_wp2_with (go_at_call 34; refine (refuses_nil b w).mono ?_; rintro e w' ⟨rfl, rfl⟩)
  go_ret2
  exact ⟨rfl, rfl⟩

theorem find_range (g dg : Nat) (b : Int) (S Sd : Nat → Prop) (C : Cac) (D : Dev) (m : KMem) (w : World) (h : CcM w S g dg D.n D.blk C m) (hD : Dv w Sd dg D) (hb : ¬ (0 ≤ b ∧ b < D.n)) :
    Calls Try.prog 38 #[.pointer (some ⟨g, 0, none⟩), .int .i64 b] w fun e w' => e = .returned (.tuple #[.pointer none, .int .i64 2]) ∧ w = w' := by
  have K := refuses_cc g dg b S Sd C D m w h hD
  unfold rangeE at K
  rw [if_pos hb] at K
  replace K := hide K
  clear h hD hb
  go_enter Try.func38, Try.ntmps38
  go_wp2_with (go_at_call 34; refine (unhide K).mono ?_; rintro e w' ⟨rfl, rfl⟩)
  go_ret2
  exact ⟨rfl, rfl⟩

theorem find_held (g dg b : Nat) (l : Ln) (S Sd : Nat → Prop) (C : Cac) (D : Dev) (m : KMem) (w : World) (h : CcM w S g dg D.n D.blk C m) (hD : Dv w Sd dg D) (hb : b < D.n) (hl : C.L b = some l) :
    Calls Try.prog 38 #[.pointer (some ⟨g, 0, none⟩), .int .i64 b] w fun e w' => e = .returned (.tuple #[.pointer (some ⟨m.q b, 0, none⟩), .int .i64 0]) ∧ w = w' := by
  have K := refuses_cc g dg b S Sd C D m w h hD
  unfold rangeE at K
  rw [if_neg (by omega)] at K
  replace K := hide K
  obtain ⟨_, _, _, c3, _⟩ := h.cells
  have hlk := h.map.look hD.ok.n2 hb (h.M_some hl)
  clear h hD hb hl
  generalize m.q b = q at *
  generalize m.mb = mb at *
  go_enter Try.func38, Try.ntmps38
  go_wp2_with (go_at_call 34; refine (unhide K).mono ?_; rintro e w' ⟨rfl, rfl⟩)
  go_ret2
  exact ⟨rfl, rfl⟩

theorem find_no (g dg b : Nat) (S Sd : Nat → Prop) (C : Cac) (D : Dev) (m : KMem) (w : World) (h : CcM w S g dg D.n D.blk C m) (hD : Dv w Sd dg D) (hb : b < D.n) (hl : C.L b = none) :
    Calls Try.prog 38 #[.pointer (some ⟨g, 0, none⟩), .int .i64 b] w fun e w' => e = .returned (.tuple #[.pointer none, .int .i64 11]) ∧ w = w' := by
  have K := refuses_cc g dg b S Sd C D m w h hD
  unfold rangeE at K
  rw [if_neg (by omega)] at K
  replace K := hide K
  obtain ⟨_, _, _, c3, _⟩ := h.cells
  have hlk := h.map.look_no hD.ok.n2 hb (by simp [Cac.M, hl])
  clear h hD hb hl
  generalize m.mb = mb at *
  go_enter Try.func38, Try.ntmps38
  go_wp2_with (go_at_call 34; refine (unhide K).mono ?_; rintro e w' ⟨rfl, rfl⟩)
  go_ret2
  exact ⟨rfl, rfl⟩

theorem own_bare8 (w : World) : Own w.heap.size (w.alloc (.cells #[] 5)) (some ⟨w.heap.size, 0, none⟩) 0 0 [] :=
  ⟨rfl, Nat.le_refl _, by unfold maxLen; omega, .inr ⟨w.heap.size, #[], rfl, Nat.le_refl _, World.alloc_heap_new _ _, rfl, rfl⟩⟩

theorem Has.later8 {w w' : World} {a : Option Addr} {len : Nat} {zs : List Int} (h : Has w a len zs) (hb : Below w.heap.size w w') : Has w' a len zs := by
  refine ⟨h.1, fun hp => ?_⟩
  obtain ⟨b, off, e, hc⟩ := h.2 hp
  exact ⟨b, off, e, fun j hj => by rw [hb.cell (p := ⟨b, off + j, none⟩) (cell_block_lt (hc j hj))]; exact hc j hj⟩

set_option maxRecDepth 100000 in
/-- bytes.Clone of bytes that are there. -/
theorem bclone_any (x : Addr) (len cap : Nat) (zs : List Int) (w : World) (hr : Has w (some x) len zs) (hn : len ≤ 140737488351232) :
    Calls Try.prog 33 #[.slice (some x) len cap] w fun e w' => ∃ a c, e = .returned (.slice a len c) ∧ Own w.heap.size w' a len c zs ∧ Below w.heap.size w w' := by
  have hb0 : Below w.heap.size w (w.alloc (.cells #[] 5)) := (Below.refl _ w).alloc (Nat.le_refl _) _
  obtain ⟨a1, c1, w1, r1, o1, _, b1⟩ := run_append_bytes (own_bare8 w) hb0.size cap (hr.later8 hb0) (by omega)
  rw [Nat.zero_add] at r1 o1
  rw [List.nil_append] at o1
  have R := hide r1
  have O := hide o1
  have B := hide (hb0.trans b1)
  clear r1 o1 b1 hb0 hr hn
  have q : ∀ (w : World) (a : Option Addr) (n c n' c' : Nat), (binOp .eql 36 (.slice a n c) (.slice none n' c')).run Try.prog w = .ok (.bool a.isNone) w := fun w a n c n' c' => Lib.run_eql_slice_nil w _ _ a n c n' c' Try.underlying36
  go_enter Try.func33, Try.ntmps33
  go_wp2_with (at_builtin; refine wpList_append_run 36 rfl _ _ rfl _ _ _ rfl rfl (unhide R) ?_)
  go_ret
  exact ⟨_, _, rfl, unhide O, unhide B⟩

end Go.Proofs.Ytpkhllpghjldhaa
