/- The contract of Waiting. -/
import Derived.Test.YtikpmchjlpobdaaDCrash
import Derived.Test.YtikpmchjlpobdaaGApartI
namespace Go.Proofs.Ytikpmchjlpobdaa
open Go.RowKit Go.Shelf
set_option linter.unusedVariables false

/-- What waits of the first k blocks. -/
def Dev.waitTo (D : Dev) : Nat → List Int
  | 0 => []
  | k + 1 => D.waitTo k ++ (if D.Y k = [] then [] else [(k : Int), ((D.Y k).length : Int)])

def Dev.waitL (D : Dev) : List Int := D.waitTo D.n

theorem waitTo_len (D : Dev) : ∀ k, (D.waitTo k).length ≤ 2 * k
  | 0 => Nat.le_refl _
  | k + 1 => by
    have := waitTo_len D k
    simp only [Dev.waitTo, List.length_append]
    split <;> simp <;> omega

/-- A row of numbers, grown since B. -/
def Gr (B : Nat) (w : World) (v : Value) (L : List Int) : Prop := w.ownsRow B 3 1 v L.length (L.map (Value.int .i64))

theorem Gr.own {B : Nat} {w : World} {v : Value} {L : List Int} (h : Gr B w v L) : ∃ a c, v = .slice a L.length c ∧ IOwn B w a L.length c L := by
  obtain ⟨h1, h2⟩ := h
  rcases h2 with ⟨rfl, h0⟩ | ⟨g, cap, cur, rfl, hg, hh, h2, h3, hc, ht⟩
  · exact ⟨none, 0, by rw [h0], rfl, by omega, by unfold maxLen; omega, .inl ⟨rfl, h0, rfl⟩⟩
  · exact ⟨_, cap, rfl, rfl, h2, h3, .inr ⟨g, cur, rfl, hg, hh, by simpa using hc, by simpa using ht⟩⟩

theorem Gr.shape {B : Nat} {w : World} {v : Value} {L : List Int} (h : Gr B w v L) : ∃ a c, v = .slice a L.length c := by
  obtain ⟨a, c, e, _⟩ := h.own
  exact ⟨a, c, e⟩

theorem Gr.later {B : Nat} {w w' : World} {v : Value} {L : List Int} (h : Gr B w v L) (hb : Below w.heap.size w w') : Gr B w' v L := by
  refine ownsRow_block h (fun g cur hg hh => hb.block g (Array.getElem?_eq_some_iff.1 hh).1)

theorem Gr.two {B : Nat} {u : World} {v : Value} {L : List Int} (h : Gr B u v L) (hB : B ≤ u.heap.size) (hl : L.length ≤ 10000) (x y : Int) :
    ∃ v' w', (∀ ty, (Builtin.append_ #[32, 32] ty #[v, .slice (some ⟨u.heap.size, 0, none⟩) 2 2]).run Try.prog (u.alloc (.cells #[.int .i64 x, .int .i64 y] 3)) = .ok v' w') ∧ Gr B w' v' (L ++ [x, y]) ∧ Below B u w' := by
  obtain ⟨i0, hi, hz0, hz1, hz2⟩ := info_parts info3
  have hb : Below u.heap.size u (u.alloc (.cells #[.int .i64 x, .int .i64 y] 3)) := (Below.refl _ _).alloc (Nat.le_refl _) _
  have hr := World.rowIs_alloc u #[.int .i64 x, .int .i64 y] 3 (fun j => if j = 0 then .int .i64 x else .int .i64 y) (fun j hj => by
    have : j = 0 ∨ j = 1 := by simp at hj; omega
    rcases this with rfl | rfl <;> rfl)
  obtain ⟨v', w', hrun, ho, hg, _⟩ := run_append_own (P := Try.prog) (u.alloc (.cells #[.int .i64 x, .int .i64 y] 3)) B 32 0 3 i0 (.int .i64 0) 1 8 Try.underlying32 hi hz0 hz1 hz2 rfl (by decide) v L.length _ (h.later hb) ⟨u.heap.size, 0, none⟩ 2 2 [.int .i64 x, .int .i64 y] rfl (by
      intro j z hj
      rw [World.add_zero_spot, Nat.zero_add]
      have hj2 : j = 0 ∨ j = 1 := by have := (List.getElem?_eq_some_iff.1 hj).1; simp at this; omega
      rw [hr.cell (i := j) (by simp; omega)]
      rcases hj2 with rfl | rfl <;> simpa using hj) (by intro z hz; simp at hz; rcases hz with rfl | rfl <;> rfl) (by unfold maxLen; omega) (by omega) (Nat.le_trans hB hb.size)
  refine ⟨v', w', fun ty => hrun, ?_, ?_⟩
  · unfold Gr
    rw [List.map_append, List.length_append]
    exact ho
  · exact (hb.mono hB).grown hg (Nat.le_trans hB hb.size) (fun k e => ((h.later hb).lt k e).1)

set_option maxHeartbeats 1000000 in
theorem waiting_any (g : Nat) (S : Nat → Prop) (D : Dev) (w : World) (hD : Dv w S g D) :
    Calls Try.prog 34 #[.pointer (some ⟨g, 0, none⟩)] w fun e w' => ∃ a c, e = .returned (.slice a D.waitL.length c) ∧ IOwn w.heap.size w' a D.waitL.length c D.waitL ∧ Below w.heap.size w w' := by
  obtain ⟨m, hD⟩ := hD
  have hn := hD.ok.n2
  have c1 := hD.cells.2.1
  have KP : Hid (∀ wr k, k < D.n → Below w.heap.size w wr → ∃ r1 r2 aw cw, wr.cell? ⟨m.h, k * 2, none⟩ = some (.slice (some ⟨r1, 0, none⟩) D.blk r2) ∧ wr.cell? ⟨m.h, k * 2 + 1, none⟩ = some (.slice aw (D.Y k).length cw)) := by
    intro wr k hk hb
    have h1 := hD.grow hb
    obtain ⟨aw, cw, ew, _⟩ := (h1.wai k hk).shape
    obtain ⟨x1, x2, _⟩ := h1.place hk
    rw [ew] at x2
    rw [Nat.mul_comm 2 k] at x1 x2
    exact ⟨_, _, aw, cw, x1, x2⟩
  have G0 : Hid (Gr w.heap.size w (.slice none 0 0) (D.waitTo 0)) := World.ownsRow_nil _ _ _ _
  have B0 : Hid (Below w.heap.size w w) := Below.refl _ _
  have hE : Hid (D.waitL = D.waitTo D.n) := rfl
  generalize m.h = hh at *
  generalize hN : D.n = nn at *
  generalize D.waitL = WL at *
  generalize D.blk = bb at *
  clear hD hN
  generalize hB0 : w.heap.size = B at *
  have hB := hide hB0.symm
  clear hB0
  go_enter Try.func34, Try.ntmps34
  go_upto_region 5 with fail
  clear c1
  go_loopw [13, 3] (fun i v wr => ∃ (k : Nat) (a' : Option Addr) (c' : Nat), k ≤ nn ∧ i = .int .i64 (k : Int) ∧ v = .slice a' (D.waitTo k).length c' ∧ Hid (Gr B wr v (D.waitTo k)) ∧ Hid (Below B w wr)) (fun i _ _ => nn - (intOf i).toNat)
  case atStart => exact ⟨0, none, 0, Nat.zero_le _, rfl, rfl, G0, B0⟩
  case round =>
    obtain ⟨k, a', c', hk, rfl, rfl, hG, hX⟩ := hrel
    clear G0 B0
    by_cases hlt : k < nn
    · obtain ⟨r1, r2, aw, cw, x1, x2⟩ := unhide KP wr k hlt (unhide hX)
      clear KP
      have hl := hide (waitTo_len D k)
      have X2 := hide ((unhide hX).alloc (w := wr) (by have := (unhide hX).size; rw [unhide hB]; exact this) (.cells #[.slice (some ⟨r1, 0, none⟩) bb r2, .slice aw (D.Y k).length cw] 66))
      have G3 := hide ((unhide hG).later ((Below.refl _ wr).alloc (Nat.le_refl _) (.cells #[.slice (some ⟨r1, 0, none⟩) bb r2, .slice aw (D.Y k).length cw] 66)))
      have y1 : (wr.alloc (.cells #[.slice (some ⟨r1, 0, none⟩) bb r2, .slice aw (D.Y k).length cw] 66)).cell? ⟨wr.heap.size, 1, none⟩ = some (.slice aw (D.Y k).length cw) :=
        (World.rowIs_alloc wr #[.slice (some ⟨r1, 0, none⟩) bb r2, .slice aw (D.Y k).length cw] 66 (fun j => if j = 0 then .slice (some ⟨r1, 0, none⟩) bb r2 else .slice aw (D.Y k).length cw) (fun j hj => by
          have : j = 0 ∨ j = 1 := by simp at hj; omega
          rcases this with rfl | rfl <;> rfl)).cell (i := 1) (by simp)
      clear hG hX
      by_cases hY : D.Y k = []
      · have G2 := hide (show D.waitTo (k + 1) = D.waitTo k by simp [Dev.waitTo, hY])
        rw [hY] at x2 X2 G3 y1
        simp only [List.length_nil] at x2 X2 G3 y1
        clear hY
        generalize hlw : (D.waitTo k).length = lw at *
        have HL := hide hlw
        clear hlw
        go_upto_region 7 with fail
        change Code.wp _ _ _ _ (wr.alloc (.cells #[.slice (some ⟨r1, 0, none⟩) bb r2, .slice aw 0 cw] 66))
        generalize wr.alloc (.cells #[.slice (some ⟨r1, 0, none⟩) bb r2, .slice aw 0 cw] 66) = u1 at *
        generalize wr.heap.size = gp at *
        clear x1 x2
        go_wp2_with fail
        refine ⟨⟨k + 1, a', c', by omega, by go_num, ?_, ?_, X2⟩, by simp [intOf]; omega⟩
        · rw [unhide G2, unhide HL]
        · rw [unhide G2]; exact G3
      · have hp : ¬ (((D.Y k).length : Int) ≤ 0) := by have := List.length_pos_iff.2 hY; omega
        have G2 := hide (show D.waitTo (k + 1) = D.waitTo k ++ [(k : Int), ((D.Y k).length : Int)] by simp [Dev.waitTo, hY])
        clear hY
        generalize hly : (D.Y k).length = ly at *
        clear hly
        have hp2 : (0 : Int) < (ly : Int) := by omega
        go_upto_region 7 with fail
        change Code.wp _ _ _ _ (wr.alloc (.cells #[.slice (some ⟨r1, 0, none⟩) bb r2, .slice aw ly cw] 66))
        have hs : Hid (B ≤ (wr.alloc (.cells #[.slice (some ⟨r1, 0, none⟩) bb r2, .slice aw ly cw] 66)).heap.size) := by
          have := (unhide X2).size
          rw [unhide hB]; exact this
        generalize wr.alloc (.cells #[.slice (some ⟨r1, 0, none⟩) bb r2, .slice aw ly cw] 66) = u1 at *
        generalize wr.heap.size = gp at *
        obtain ⟨v', w2, R', G4, X4⟩ := (unhide G3).two (unhide hs) (by have := unhide hl; omega) (k : Int) (ly : Int)
        obtain ⟨a2, c2, rfl⟩ := G4.shape
        have R := hide R'
        have G5 := hide G4
        have X5 := hide ((unhide X2).trans X4)
        generalize hlw : (D.waitTo k).length = lw at *
        have HL := hide hlw
        clear x1 x2 R' G4 X4 hlw G3 X2 hs
        go_wp2_with (at_builtin; refine wpList_append_run 32 rfl _ _ rfl _ _ _ rfl rfl (unhide R) ?_; clear R)
        refine ⟨⟨k + 1, a2, c2, by omega, by go_num, ?_, ?_, X5⟩, by simp [intOf]; omega⟩
        · rw [unhide G2, List.length_append]; rfl
        · rw [unhide G2]
          have := unhide G5
          rw [List.length_append] at this
          exact this
    · obtain rfl : k = nn := by omega
      clear KP
      go_wp2_with fail
      go_ret
      rw [unhide hE]
      obtain ⟨a2, c2, e, ho⟩ := (unhide hG).own
      cases e
      exact ⟨_, _, rfl, ho, unhide hX⟩

end Go.Proofs.Ytikpmchjlpobdaa
