/- The contract of slices.Backward at byte slices that are not empty. -/
import Derived.Test.YtmdkcoenjadieaaGBase
import Derived.RangeFuncNested
import Derived.RangeFuncBound
import Derived.RangeFuncCalls
import Derived.RangeFuncLeaves
import Derived.Shelf.Abstract
import Derived.Shelf.RegionOpen
import Derived.OwnWalkIn
import Derived.TacticsInMore
import Derived.LoopNIn
import Derived.LoopIn
namespace Go.Proofs.Ytmdkcoenjadieaa
open Go.RowKit Go.Shelf
set_option linter.unusedVariables false
attribute [local go_sem] Oper.semAt_some

/-- An index below len, and a byte. -/
abbrev Pt (len : Nat) := { p : Nat × Int // p.1 < len ∧ 0 ≤ p.2 ∧ p.2 ≤ 255 }

/-- len - 1, len - 2, ..: the first k of them. -/
def desc (len k : Nat) : List Nat := (List.range k).map (fun j => len - 1 - j)

theorem desc_succ (len k : Nat) : desc len (k + 1) = desc len k ++ [len - 1 - k] := by simp [desc, List.range_succ]

/-- What has come when k rounds are over. -/
def Came (len : Nat) (good : Nat → Int → Prop) (k : Nat) (pre : List (Pt len)) : Prop :=
  pre.map (fun x => x.1.1) = desc len k ∧ ∀ x ∈ pre, good x.1.1 x.1.2

theorem Came.nil (len : Nat) (good : Nat → Int → Prop) : Came len good 0 [] := ⟨by simp [desc], by simp⟩

theorem Came.snoc {len : Nat} {good : Nat → Int → Prop} {k : Nat} {pre : List (Pt len)} (h : Came len good k pre) (x : Pt len) (hi : x.1.1 = len - 1 - k) (hg : good x.1.1 x.1.2) : Came len good (k + 1) (pre ++ [x]) := by
  refine ⟨by rw [desc_succ, ← h.1, ← hi]; simp, ?_⟩
  intro y hy
  rcases List.mem_append.1 hy with hy | hy
  · exact h.2 y hy
  · simp at hy; subst hy; exact hg

theorem Came.length {len : Nat} {good : Nat → Int → Prop} {k : Nat} {pre : List (Pt len)} (h : Came len good k pre) : pre.length = k := by
  have := congrArg List.length h.1
  simpa [desc] using this

/-- What the iterator reads: its box with the slice, and a good byte at each place. -/
def Reads (Bs b off len cap : Nat) (good : Nat → Int → Prop) (W : World) : Prop :=
  W.cell? ⟨Bs, 0, none⟩ = some (.slice (some ⟨b, off, none⟩) len cap) ∧ ∀ j, j < len → ∃ z : Int, 0 ≤ z ∧ z ≤ 255 ∧ good j z ∧ W.cell? ⟨b, off + j, none⟩ = some (.int .u8 z)

set_option maxRecDepth 100000 in
set_option maxHeartbeats 2000000 in
theorem back1_in (F : Fence) (n : Nat) (h34 : F.fn 45) (hro : F.round = none) (hn : 1 ≤ n) (l Bs b off len cap : Nat) (good : Nat → Int → Prop) (hl : len ≤ maxLen) (Kp : World → World → Prop)
    (hK : ∀ A B, Kp A B → Reads Bs b off len cap good A → Reads Bs b off len cap good B) (J Jx : List (Pt len) → World → Prop)
    (hY : ∀ pre x W, J pre W → pre.length < len → YieldAt F (n - 1) Try.prog l #[.int .i64 (x.1.1 : Int), .int .u8 x.1.2] W fun e W' =>
      (e = .returned (.bool true) ∧ J (pre ++ [x]) W' ∧ Kp W W') ∨ (e = .returned (.bool false) ∧ Jx (pre ++ [x]) W'))
    (W : World) (hR : Reads Bs b off len cap good W) (h0 : J [] W) :
    CallsIn F n Try.prog 45 #[.func (.yield l) #[] #[], .pointer (some ⟨Bs, 0, none⟩)] W fun e W' => (∃ v, e = .returned v) ∧
      ((∃ ys, Came len good len ys ∧ J ys W') ∨ (∃ pre, (∃ k, k ≤ len ∧ Came len good k pre) ∧ Jx pre W')) := by
  unfold maxLen at hl
  have hb0 := hR.1
  refine callsIn_of_wp Try.func45 rfl h34 ?_ hro
  simp only [Try.ntmps45, List.size_toArray, List.length_cons, List.length_nil, Nat.reduceAdd, Nat.reduceSub, Array.replicate_succ, Array.replicate_zero, List.push_toArray, List.append_toArray, List.nil_append, List.cons_append]
  gi_wp2
  gi_loopw [3] (fun i wr => ∃ m : Nat, m ≤ len ∧ i = .int .i64 ((m : Int) - 1) ∧ (∃ pre, Came len good (len - m) pre ∧ J pre wr) ∧ Reads Bs b off len cap good wr)
    (fun i _ => (intOf i + 1).toNat)
  case atStart => exact ⟨len, Nat.le_refl _, rfl, ⟨[], by rw [Nat.sub_self]; exact Came.nil _ _, h0⟩, hR⟩
  case round =>
    obtain ⟨m, hm, rfl, ⟨pre, hpre, hJs⟩, hRs⟩ := hrel
    clear hb0
    by_cases hlt : 0 < m
    · obtain ⟨z, hz0, hz1, hg, hcz⟩ := hRs.2 (m - 1) (by omega)
      obtain ⟨fn, tmps, assign, body, hy, hRd⟩ := hY pre ⟨(m - 1, z), by omega, hz0, hz1⟩ wr hJs (by rw [hpre.length]; omega)
      obtain ⟨q, rfl⟩ : ∃ q, m = q + 1 := ⟨m - 1, by omega⟩
      have hb1 := hRs.1
      simp only [Nat.add_sub_cancel] at hcz hg hRd hy
      have hi : ((q + 1 : Nat) : Int) - 1 = (q : Int) := by omega
      rw [hi]
      have hq : q < len := by omega
      gi_wp2
      refine hRd.mono ?_
      rintro e W3 (⟨rfl, hJ3, hk3⟩ | ⟨rfl, hJx3⟩)
      · gi_wp2
        go_roundw
        case rel => exact ⟨q, by omega, rfl, ⟨_, (by have := hpre.snoc ⟨(q, z), by omega, hz0, hz1⟩ (by simp; omega) hg; rwa [show len - (q + 1) + 1 = len - q by omega] at this), hJ3⟩, hK _ _ hk3 hRs⟩
        case measure => simp [intOf]
      · gi_wp2
        refine bodyPost_ret (results_none rfl _ _ _) rfl ?_
        exact ⟨⟨_, rfl⟩, .inr ⟨_, ⟨len - (q + 1) + 1, by omega, hpre.snoc ⟨(q, z), by omega, hz0, hz1⟩ (by simp; omega) hg⟩, hJx3⟩⟩
    · obtain rfl : m = 0 := by omega
      gi_wp2
      go_end0
      exact ⟨⟨_, rfl⟩, .inl ⟨_, hpre, hJs⟩⟩

set_option maxHeartbeats 1000000 in
theorem back_in (F : Fence) (n : Nat) (h24 : F.fn 38) (hro : F.round = none) (a : Option Addr) (len cap : Nat) (w : World) :
    CallsIn F n Try.prog 38 #[.slice a len cap] w fun e w' => e = .returned (.func (.func 45) #[] #[.pointer (some ⟨w.heap.size, 0, none⟩)]) ∧ w' = w.alloc (.cells #[.slice a len cap] 27) := by
  refine callsIn_of_wp Try.func38 rfl h24 ?_ hro
  simp only [Try.ntmps38, List.size_toArray, List.length_cons, List.length_nil, Nat.reduceAdd, Nat.reduceSub, Array.replicate_succ, Array.replicate_zero, List.push_toArray, List.append_toArray, List.nil_append, List.cons_append]
  gi_wp2
  go_ret
  exact ⟨rfl, rfl⟩

theorem back_stops (F : Fence) (n : Nat) (h34 : F.fn 45) (hro : F.round = none) (hn : 1 ≤ n) (Bs b off len cap : Nat) (good : Nat → Int → Prop) (hl : len ≤ maxLen) (w : World) (hBs : Bs < w.heap.size) (hb : b < w.heap.size)
    (Kp : World → World → Prop) (hK : ∀ A B, Kp A B → Reads Bs b off len cap good A → Reads Bs b off len cap good B) (hR : Reads Bs b off len cap good w) :
    SeqStopsK F n Try.prog 45 #[.pointer (some ⟨Bs, 0, none⟩)] (fun x : Pt len => #[Value.int .i64 (x.1.1 : Int), Value.int .u8 x.1.2]) Kp (fun ys => Came len good len ys)
      (fun pre => ∃ k, k ≤ len ∧ Came len good k pre) len w := fun l J Jx W hW _ _ hY h0 => by
  have hR' : Reads Bs b off len cap good W := ⟨(hW.cell (p := ⟨Bs, 0, none⟩) hBs).trans hR.1, fun j hj => by
    obtain ⟨z, h1, h2, h3, h4⟩ := hR.2 j hj
    exact ⟨z, h1, h2, h3, (hW.cell (p := ⟨b, off + j, none⟩) hb).trans h4⟩⟩
  exact back1_in F n h34 hro hn l Bs b off len cap good hl Kp hK J Jx hY W hR' h0

end Go.Proofs.Ytmdkcoenjadieaa
