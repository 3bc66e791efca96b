/- The contract of lay, and of the closure that takes blocks. -/
import Derived.Test.YtkdiifoipfkmcaaPLeaf
namespace Go.Proofs.Ytkdiifoipfkmcaa
open Go.RowKit Go.Shelf
set_option linter.unusedVariables false

theorem take_any (g : Nat) (n x : Int) (w : World) (hc : w.heap[g]? = some (.cells #[.int .i64 x] 3 (0, 0))) (hn : 0 ≤ n ∧ n ≤ 1099511627776) (hx : 0 ≤ x ∧ x ≤ 1099511627776) :
    Calls Try.prog 44 #[.int .i64 n, .pointer (some ⟨g, 0, none⟩)] w fun r w' => r = .returned (.tuple #[.int .i64 x, .int .i64 n]) ∧ w' = w.setCell ⟨g, 0, none⟩ (.int .i64 (x + n)) := by
  have c1 : w.cell? ⟨g, 0, none⟩ = some (.int .i64 x) := by simp [World.cell?, hc]
  have c2 : w.frozen? ⟨g, 0, none⟩ = false := by simp [World.frozen?, hc]
  clear hc
  go_enter Try.func44, Try.ntmps44
  go_wp2
  go_ret2
  refine ⟨rfl, ?_⟩
  go_num

/-- What stands in memory while lay runs: its answer, the plan, the next block. -/
structure Lay (B : Nat) (w wx : World) (P : Nat → Int) (x : Int) : Prop where
  zero : R12 wx B zeroP
  plan : R12 wx (B + 1) P
  next : wx.heap[B + 1 + 1]? = some (.cells #[.int .i64 x] 3 (0, 0))
  below : Below B w wx

theorem Lay.take {B : Nat} {w wx : World} {P : Nat → Int} {x : Int} (h : Lay B w wx P x) (n y : Int) (hy : x + n = y) (hn : 0 ≤ n ∧ n ≤ 1099511627776) (hx : 0 ≤ x ∧ x ≤ 1099511627776) :
    Calls Try.prog 44 #[.int .i64 n, .pointer (some ⟨B + 1 + 1, 0, none⟩)] wx fun r w' => r = .returned (.tuple #[.int .i64 x, .int .i64 n]) ∧ Lay B w w' P y := by
  subst hy
  refine (take_any _ n x wx h.next hn hx).mono ?_
  rintro r w' ⟨rfl, rfl⟩
  refine ⟨rfl, h.zero.other _ _ (by simp; omega), h.plan.other _ _ (by simp), ?_, h.below.setCell (by simp; omega) _⟩
  rw [setCell_eq_setRow wx _ 0 _ 3 (0, 0) _ h.next, setRow_heap wx _ _ _ 3 _ h.next]
  rfl

theorem Lay.set {B : Nat} {w wx : World} {P : Nat → Int} {x : Int} (h : Lay B w wx P x) (k : Nat) (hk : k < 12) (z : Int) : Lay B w (wx.setCell ⟨B + 1, k, none⟩ (.int .i64 z)) (updP P k z) x :=
  ⟨h.zero.other _ _ (by simp), h.plan.set k hk z, (Below.heap_setCell wx _ _ _ (by simp)).trans h.next, h.below.setCell (by simp) _⟩

/-- As few as hold n things, if each has room for e. -/
def cd (n e : Int) : Int := (n + e - 1) / e

def plan0 (b bl ino lg : Int) : Nat → Int
  | 0 => b | 1 => bl | 2 => ino | 3 => lg | _ => 0

/-- The plan that the document asks for. -/
def planOf (b bl ino lg : Int) : Nat → Int
  | 0 => b | 1 => bl | 2 => ino | 3 => lg | 4 => 2 | 5 => 2 + lg | 6 => cd ino (8 * b) | 7 => 2 + lg + cd ino (8 * b) | 8 => cd bl (8 * b) | 9 => 2 + lg + cd ino (8 * b) + cd bl (8 * b)
  | 10 => cd ino (b / 32) | 11 => 2 + lg + cd ino (8 * b) + cd bl (8 * b) + cd ino (b / 32) | _ => 0

theorem cd_bd (n e : Int) (hn : 0 ≤ n ∧ n ≤ 4096) (he : 1 ≤ e) : 0 ≤ cd n e ∧ cd n e ≤ 4096 := by
  unfold cd
  refine ⟨Int.ediv_nonneg (by omega) (by omega), ?_⟩
  have : (n + e - 1) / e < 4096 + 1 := by
    rw [Int.ediv_lt_iff_lt_mul (by omega)]
    have : 4096 * 1 ≤ 4096 * e := by omega
    omega
  omega

theorem ret_plan {P Q : Nat → Int} (h : ∀ k, k < 12 → P k = Q k) : Ending.returned (Pv P) = .returned (Pv Q) := by rw [Pv.congr h]

theorem fewest_cd (n e c : Int) (h : cd n e = c) (w : World) (hn : 0 ≤ n ∧ n ≤ 1099511627776) (he : 1 ≤ e ∧ e ≤ 1099511627776) :
    Calls Try.prog 30 #[.int .i64 n, .int .i64 e] w fun r w' => r = .returned (.int .i64 c) ∧ w = w' := by
  subst h
  exact fewest_any n e w hn he

set_option maxRecDepth 10000 in
set_option maxHeartbeats 2000000 in
theorem lay_walk (b bl ino lg q c1 c2 c3 : Int) (w : World) (hb : 64 ≤ b ∧ b ≤ 4096) (hbl : 1 ≤ bl ∧ bl ≤ 4096) (hi : 2 ≤ ino ∧ ino ≤ 1024) (hl : 4 ≤ lg ∧ lg ≤ 512) (hq : b / 32 = q) (h1 : cd ino (8 * b) = c1) (h2 : cd bl (8 * b) = c2) (h3 : cd ino q = c3) (Q : Nat → Int) (hQ : planOf b bl ino lg = Q) :
    Calls Try.prog 41 #[.int .i64 b, .int .i64 bl, .int .i64 ino, .int .i64 lg] w fun r w' => r = .returned (Pv Q) ∧ Below w.heap.size w w' := by
  have hmf : ∀ (fn : Fn) (first cap : Array Value) (w : World), (Instr.makeFunc fn first cap).run Try.prog w = .ok (.func fn first cap) w := fun _ _ _ _ => rfl
  have hL : Hid (Lay w.heap.size w (((w.alloc (.cells (Pc zeroP) 23)).alloc (.cells (Pc (plan0 b bl ino lg)) 23)).alloc (.cells #[.int .i64 0] 3)) (plan0 b bl ino lg) 0) := by
    refine ⟨((R12.new w zeroP).alloc _).alloc _, ?_, ?_, ?_⟩
    · have := R12.new (w.alloc (.cells (Pc zeroP) 23)) (plan0 b bl ino lg)
      rw [show (w.alloc (.cells (Pc zeroP) 23)).heap.size = w.heap.size + 1 by simp] at this
      exact this.alloc _
    · have := heap_alloc_new ((w.alloc (.cells (Pc zeroP) 23)).alloc (.cells (Pc (plan0 b bl ino lg)) 23)) (.cells #[.int .i64 0] 3)
      simpa using this
    · exact (((Below.refl _ _).alloc (Nat.le_refl _) _).alloc (by simp) _).alloc (by simp; omega) _
  have HX : Hid ((64 ≤ b ∧ b ≤ 4096) ∧ (1 ≤ bl ∧ bl ≤ 4096) ∧ (2 ≤ ino ∧ ino ≤ 1024) ∧ (4 ≤ lg ∧ lg ≤ 512) ∧ 2 ≤ q ∧ q ≤ 128) := ⟨hb, hbl, hi, hl, by omega, by omega⟩
  have HC : Hid ((0 ≤ c1 ∧ c1 ≤ 4096) ∧ (0 ≤ c2 ∧ c2 ≤ 4096) ∧ (0 ≤ c3 ∧ c3 ≤ 4096)) := by
    refine ⟨?_, ?_, ?_⟩
    · rw [← h1]; exact cd_bd _ _ (by omega) (by omega)
    · rw [← h2]; exact cd_bd _ _ (by omega) (by omega)
    · rw [← h3]; exact cd_bd _ _ (by omega) (by omega)
  have H1 := hide h1
  have H2 := hide h2
  have H3 := hide h3
  have HQ := hide hq
  have HP := hide hQ
  have q1 : IntKind.i64.wrap (8 * b) = 8 * b := by rw [IntKind.wrap_i64]; omega
  have q2 : wrap64 (b.tdiv 32) = q := by rw [Int.tdiv_eq_ediv_of_nonneg (by omega), hq]; simp only [wrap64]; omega
  have b0 : 0 ≤ b := by omega
  clear hbl hi hl h1 h2 h3 hb hq hQ
  go_enter Try.func41, Try.ntmps41
  go_wp2_with fail
  go_at_call 44
  refine ((unhide hL).take 1 1 (by omega) (by omega) (by omega)).mono ?_
  clear hL
  rintro e w1 ⟨rfl, hL⟩
  replace hL := hide hL
  go_wp2_with fail
  go_at_call 44
  refine ((unhide hL).take 1 2 (by omega) (by omega) (by omega)).mono ?_
  clear hL
  rintro e w2 ⟨rfl, hL⟩
  replace hL := hide hL
  go_wp2_with fail
  go_at_call 44
  obtain ⟨x1, hx1⟩ : ∃ x, 2 + lg = x := ⟨_, rfl⟩
  refine ((unhide hL).take lg x1 hx1 (by have := unhide HX; omega) (by omega)).mono ?_
  clear hL
  have E1 := hide hx1
  clear hx1
  rintro e w3 ⟨rfl, hL⟩
  replace hL := hide hL
  have e1 := (unhide hL).plan.cell 4 (by omega)
  have e2 := (unhide hL).plan.free 4
  go_wp2_with fail
  go_at_call 30
  refine (fewest_cd _ _ c1 (unhide H1) _ (by have := unhide HX; omega) (by have := unhide HX; omega)).mono ?_
  rintro e w4 ⟨rfl, rfl⟩
  clear e1 e2
  replace hL := hide ((unhide hL).set 4 (by omega) 2)
  generalize w3.setCell ⟨w.heap.size + 1, 4, none⟩ (.int .i64 2) = w4 at *
  go_wp2_with fail
  go_at_call 44
  obtain ⟨x2, hx2⟩ : ∃ x, x1 + c1 = x := ⟨_, rfl⟩
  refine ((unhide hL).take c1 x2 hx2 (by have := unhide HC; omega) (by have := unhide HX; have := unhide E1; omega)).mono ?_
  clear hL
  have E2 := hide hx2
  clear hx2
  rintro e w5 ⟨rfl, hL⟩
  replace hL := hide hL
  have e1 := (unhide hL).plan.cell 5 (by omega)
  have e2 := (unhide hL).plan.free 5
  have e3 := (unhide hL).plan.cell 6 (by omega)
  have e4 := (unhide hL).plan.free 6
  go_wp2_with fail
  go_at_call 30
  refine (fewest_cd _ _ c2 (unhide H2) _ (by have := unhide HX; omega) (by have := unhide HX; omega)).mono ?_
  rintro e w6 ⟨rfl, rfl⟩
  clear e1 e2 e3 e4
  replace hL := hide (((unhide hL).set 5 (by omega) x1).set 6 (by omega) c1)
  generalize (w5.setCell ⟨w.heap.size + 1, 5, none⟩ (.int .i64 x1)).setCell ⟨w.heap.size + 1, 6, none⟩ (.int .i64 c1) = w6 at *
  go_wp2_with fail
  go_at_call 44
  obtain ⟨x3, hx3⟩ : ∃ x, x2 + c2 = x := ⟨_, rfl⟩
  refine ((unhide hL).take c2 x3 hx3 (by have := unhide HC; omega) (by have := unhide HX; have := unhide HC; have := unhide E1; have := unhide E2; omega)).mono ?_
  clear hL
  have E3 := hide hx3
  clear hx3
  rintro e w7 ⟨rfl, hL⟩
  replace hL := hide hL
  have e1 := (unhide hL).plan.cell 7 (by omega)
  have e2 := (unhide hL).plan.free 7
  have e3 := (unhide hL).plan.cell 8 (by omega)
  have e4 := (unhide hL).plan.free 8
  go_wp2_with fail
  go_at_call 30
  rw [q2]
  refine (fewest_cd _ _ c3 (unhide H3) _ (by have := unhide HX; omega) (by have := unhide HX; omega)).mono ?_
  rintro e w8 ⟨rfl, rfl⟩
  clear e1 e2 e3 e4
  replace hL := hide (((unhide hL).set 7 (by omega) x2).set 8 (by omega) c2)
  generalize (w7.setCell ⟨w.heap.size + 1, 7, none⟩ (.int .i64 x2)).setCell ⟨w.heap.size + 1, 8, none⟩ (.int .i64 c2) = w8 at *
  go_wp2_with fail
  go_at_call 44
  obtain ⟨x4, hx4⟩ : ∃ x, x3 + c3 = x := ⟨_, rfl⟩
  refine ((unhide hL).take c3 x4 hx4 (by have := unhide HC; omega) (by have := unhide HX; have := unhide HC; have := unhide E1; have := unhide E2; have := unhide E3; omega)).mono ?_
  clear hL
  have E4 := hide hx4
  clear hx4
  rintro e w9 ⟨rfl, hL⟩
  have hR := hide (((hL.set 9 (by omega) x3).set 10 (by omega) c3).set 11 (by omega) x4)
  replace hL := hide hL
  have e1 := (unhide hL).plan.cell 9 (by omega)
  have e2 := (unhide hL).plan.free 9
  have e3 := (unhide hL).plan.cell 10 (by omega)
  have e4 := (unhide hL).plan.free 10
  have e5 := (unhide hL).plan.cell 11 (by omega)
  have e6 := (unhide hL).plan.free 11
  have e7 : w9.cell? ⟨w.heap.size + 1 + 1, 0, none⟩ = some (.int .i64 x4) := by simp [World.cell?, (unhide hL).next]
  go_upto_region 11 with fail
  have hP : Hid (Lay w.heap.size w (((w9.setCell ⟨w.heap.size + 1, 9, none⟩ (.int .i64 x3)).setCell ⟨w.heap.size + 1, 10, none⟩ (.int .i64 c3)).setCell ⟨w.heap.size + 1, 11, none⟩ (.int .i64 x4)) Q x4) := by
    rw [← unhide HP]
    refine ⟨(unhide hR).zero, (unhide hR).plan.congr ?_, (unhide hR).next, (unhide hR).below⟩
    have y1 := unhide E1
    have y2 := unhide E2
    have y3 := unhide E3
    have y4 := unhide E4
    have y5 := unhide H1
    have y6 := unhide H2
    have y7 := unhide H3
    have y8 := unhide HQ
    clear hL e1 e2 e3 e4 e5 e6 e7 hR
    subst y8 y5 y6 y7 y1 y2 y3 y4
    intro k hk
    rcases twelve hk with rfl | rfl | rfl | rfl | rfl | rfl | rfl | rfl | rfl | rfl | rfl | rfl <;> rfl
  clear hL e1 e2 e3 e4 e5 e6 e7 hR
  generalize (((w9.setCell ⟨w.heap.size + 1, 9, none⟩ (.int .i64 x3)).setCell ⟨w.heap.size + 1, 10, none⟩ (.int .i64 c3)).setCell ⟨w.heap.size + 1, 11, none⟩ (.int .i64 x4)) = wx at *
  have f0 := (unhide hP).plan.cell 0 (by omega)
  have f1 := (unhide hP).plan.cell 1 (by omega)
  have f2 := (unhide hP).plan.cell 2 (by omega)
  have f3 := (unhide hP).plan.cell 3 (by omega)
  have f4 := (unhide hP).plan.cell 4 (by omega)
  have f5 := (unhide hP).plan.cell 5 (by omega)
  have f6 := (unhide hP).plan.cell 6 (by omega)
  have f7 := (unhide hP).plan.cell 7 (by omega)
  have f8 := (unhide hP).plan.cell 8 (by omega)
  have f9 := (unhide hP).plan.cell 9 (by omega)
  have f10 := (unhide hP).plan.cell 10 (by omega)
  have f11 := (unhide hP).plan.cell 11 (by omega)
  have z0 := (unhide hP).zero.cell 0 (by omega)
  have z1 := (unhide hP).zero.cell 1 (by omega)
  have z2 := (unhide hP).zero.cell 2 (by omega)
  have z3 := (unhide hP).zero.cell 3 (by omega)
  have z4 := (unhide hP).zero.cell 4 (by omega)
  have z5 := (unhide hP).zero.cell 5 (by omega)
  have z6 := (unhide hP).zero.cell 6 (by omega)
  have z7 := (unhide hP).zero.cell 7 (by omega)
  have z8 := (unhide hP).zero.cell 8 (by omega)
  have z9 := (unhide hP).zero.cell 9 (by omega)
  have z10 := (unhide hP).zero.cell 10 (by omega)
  have z11 := (unhide hP).zero.cell 11 (by omega)
  have u := (unhide hP).zero.free
  go_wp2
  have hW : Below w.heap.size w (all12 wx w.heap.size Q) := below_all12 (unhide hP).below (Nat.le_refl _) Q
  have hA : R12 (all12 wx w.heap.size Q) w.heap.size Q := (unhide hP).zero.all Q
  change bodyPost _ _ _ _ _ (all12 wx w.heap.size Q)
  generalize all12 wx w.heap.size Q = wf at *
  refine bodyPost_ret (v := Pv Q) ?_ rfl ⟨rfl, hW⟩
  simp [results, Try.results41, go_sem, hA.cell 0 (by omega), hA.cell 1 (by omega), hA.cell 2 (by omega), hA.cell 3 (by omega), hA.cell 4 (by omega), hA.cell 5 (by omega), hA.cell 6 (by omega), hA.cell 7 (by omega), hA.cell 8 (by omega), hA.cell 9 (by omega), hA.cell 10 (by omega), hA.cell 11 (by omega)]

theorem lay_any (b bl ino lg : Int) (w : World) (hb : 64 ≤ b ∧ b ≤ 4096) (hbl : 1 ≤ bl ∧ bl ≤ 4096) (hi : 2 ≤ ino ∧ ino ≤ 1024) (hl : 4 ≤ lg ∧ lg ≤ 512) :
    Calls Try.prog 41 #[.int .i64 b, .int .i64 bl, .int .i64 ino, .int .i64 lg] w fun r w' => r = .returned (Pv (planOf b bl ino lg)) ∧ Below w.heap.size w w' :=
  lay_walk b bl ino lg _ _ _ _ w hb hbl hi hl rfl rfl rfl rfl _ rfl
end Go.Proofs.Ytkdiifoipfkmcaa
