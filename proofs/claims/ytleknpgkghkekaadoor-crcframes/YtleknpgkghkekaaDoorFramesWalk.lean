/- Frame and Unframe by one contract each, and CrcFrames' walk. -/
import Derived.Test.YtleknpgkghkekaaDoorRefUnframe
import Derived.Test.YtleknpgkghkekaaDoorRefFrame
import Derived.Test.YtleknpgkghkekaaDoorGSame
namespace Go.Proofs.YtleknpgkghkekaaDoor
open Go.RowKit Go.Shelf
set_option linter.unusedVariables false

theorem Has.below' {w w' : World} {a : Option Addr} {len : Nat} {zs : List Int} (h : Has w a len zs) (hb : Below w.heap.size w w') : Has w' a len zs := by
  refine ⟨h.1, fun hp => ?_⟩
  obtain ⟨b, off, e, hc⟩ := h.2 hp
  refine ⟨b, off, e, fun j hj => ?_⟩
  have := hc j hj
  rw [hb.cell (p := ⟨b, off + j, none⟩) (cell_block_lt this)]
  exact this

/-- What Frame answers. -/
def frB (zs : List Int) : List Int := if 65535 < zs.length then [] else frameB zs

def frE (zs : List Int) : Int := if 65535 < zs.length then 5 else 0

theorem frame_any (a : Option Addr) (len cap : Nat) (zs : List Int) (w : World) (hr : Row w.heap.size w a len cap zs) (hT : Tab w) :
    Calls Tryd.prog 14 #[.slice a len cap] w fun e w' => ∃ a' c', e = .returned (.tuple #[.slice a' (frB zs).length c', .int .i64 (frE zs)]) ∧ Hid (Own w.heap.size w' a' (frB zs).length c' (frB zs)) ∧ Below w.heap.size w w' := by
  have hlen := hr.1
  unfold frB frE
  by_cases h : 65535 < zs.length
  · rw [if_pos h, if_pos h]
    refine (frame_bad a len cap w (by omega) hr.2.2.1.1).mono ?_
    rintro e w' ⟨rfl, rfl⟩
    exact ⟨none, 0, rfl, Own.nil _ _, Below.refl _ _⟩
  · rw [if_neg h, if_neg h, frameB_length, hlen]
    exact frame_good a len cap zs w hr hT (by omega)

theorem refFrame_any (a : Option Addr) (len cap : Nat) (zs : List Int) (w : World) (hr : Row w.heap.size w a len cap zs) :
    Calls Tryd.prog 15 #[.slice a len cap] w fun e w' => ∃ a' c', e = .returned (.tuple #[.slice a' (frB zs).length c', .int .i64 (frE zs)]) ∧ Hid (Own w.heap.size w' a' (frB zs).length c' (frB zs)) ∧ Below w.heap.size w w' := by
  have hlen := hr.1
  unfold frB frE
  by_cases h : 65535 < zs.length
  · rw [if_pos h, if_pos h]
    refine (refFrame_bad a len cap w (by omega) hr.2.2.1.1).mono ?_
    rintro e w' ⟨rfl, rfl⟩
    exact ⟨none, 0, rfl, Own.nil _ _, Below.refl _ _⟩
  · rw [if_neg h, if_neg h, frameB_length, hlen]
    exact refFrame_good a len cap zs w hr (by omega)

/-- What Unframe answers. -/
def unB (zs : List Int) (at' : Int) : List Int := if unE zs at' = 0 then ((zs.drop at'.toNat).drop 2).take (sizeB (zs.drop at'.toNat)) else []

def unN (zs : List Int) (at' : Int) : Int := if unE zs at' = 0 then at' + (sizeB (zs.drop at'.toNat) : Int) + 6 else 0

theorem UnAns.one {w w' : World} {e : Ending} {zs : List Int} {at' : Int} (h : UnAns w w' e at' (zs.drop at'.toNat) (unE zs at')) :
    ∃ a' c', e = .returned (.tuple #[.slice a' (unB zs at').length c', .int .i64 (unN zs at'), .int .i64 (unE zs at')]) ∧ Hid (Own w.heap.size w' a' (unB zs at').length c' (unB zs at')) := by
  unfold unB unN
  rcases h with ⟨hq, rfl⟩ | ⟨hq, a', c', rfl, hO⟩
  · rw [if_neg hq, if_neg hq]
    exact ⟨none, 0, rfl, Own.nil _ _⟩
  · rw [if_pos hq, if_pos hq, hq]
    have hl := hO.1
    rw [hl]
    exact ⟨a', c', rfl, hO⟩

theorem unframe_one (a : Option Addr) (len cap : Nat) (zs : List Int) (at' : Int) (w : World) (hr : Row w.heap.size w a len cap zs) (hT : Tab w) :
    Calls Tryd.prog 16 #[.slice a len cap, .int .i64 at'] w fun e w' => ∃ a' c', e = .returned (.tuple #[.slice a' (unB zs at').length c', .int .i64 (unN zs at'), .int .i64 (unE zs at')]) ∧ Hid (Own w.heap.size w' a' (unB zs at').length c' (unB zs at')) ∧ Below w.heap.size w w' := by
  refine (unframe_any a len cap zs at' w hr hT).mono ?_
  rintro e w' ⟨h, hb⟩
  obtain ⟨a', c', rfl, hO⟩ := h.one
  exact ⟨a', c', rfl, hO, hb⟩

theorem refUnframe_one (a : Option Addr) (len cap : Nat) (zs : List Int) (at' : Int) (w : World) (hr : Row w.heap.size w a len cap zs) :
    Calls Tryd.prog 17 #[.slice a len cap, .int .i64 at'] w fun e w' => ∃ a' c', e = .returned (.tuple #[.slice a' (unB zs at').length c', .int .i64 (unN zs at'), .int .i64 (unE zs at')]) ∧ Hid (Own w.heap.size w' a' (unB zs at').length c' (unB zs at')) ∧ Below w.heap.size w w' := by
  refine (refUnframe_any a len cap zs at' w hr).mono ?_
  rintro e w' ⟨h, hb⟩
  obtain ⟨a', c', rfl, hO⟩ := h.one
  exact ⟨a', c', rfl, hO, hb⟩

set_option maxHeartbeats 2000000 in
theorem frames_walk (a : Option Addr) (len cap : Nat) (zs : List Int) (at' : Int) (w : World) (hr : Row w.heap.size w a len cap zs) (hT : Tab w) :
    Calls Tryd.prog 4 #[.slice a len cap, .int .i64 at'] w fun e w' => e = .returned (.bool true) ∧ Below w.heap.size w w' := by
  have hTs := tab_size hT
  have KW := hide (wakes_any w hT)
  have K14 : Hid (∀ w1, Below w.heap.size w w1 → Calls Tryd.prog 14 #[.slice a len cap] w1 fun e w' => ∃ a' c', e = .returned (.tuple #[.slice a' (frB zs).length c', .int .i64 (frE zs)]) ∧ Hid (Has w' a' (frB zs).length (frB zs)) ∧ Hid (Below w1.heap.size w1 w') ∧ Below w.heap.size w w') := by
    intro w1 hb
    refine (frame_any a len cap zs w1 (hr.below hb hb.size) (hT.below hb hTs)).mono ?_
    rintro e w' ⟨a', c', rfl, hO, hb'⟩
    exact ⟨a', c', rfl, (unhide hO).has, hb', Below.chain hb hb' (Nat.le_refl _)⟩
  have K15 : Hid (∀ w1, Below w.heap.size w w1 → Calls Tryd.prog 15 #[.slice a len cap] w1 fun e w' => ∃ a' c', e = .returned (.tuple #[.slice a' (frB zs).length c', .int .i64 (frE zs)]) ∧ Hid (Has w' a' (frB zs).length (frB zs)) ∧ Hid (Below w1.heap.size w1 w') ∧ Below w.heap.size w w') := by
    intro w1 hb
    refine (refFrame_any a len cap zs w1 (hr.below hb hb.size)).mono ?_
    rintro e w' ⟨a', c', rfl, hO, hb'⟩
    exact ⟨a', c', rfl, (unhide hO).has, hb', Below.chain hb hb' (Nat.le_refl _)⟩
  have K16 : Hid (∀ w1, Below w.heap.size w w1 → Calls Tryd.prog 16 #[.slice a len cap, .int .i64 at'] w1 fun e w' => ∃ a' c', e = .returned (.tuple #[.slice a' (unB zs at').length c', .int .i64 (unN zs at'), .int .i64 (unE zs at')]) ∧ Hid (Has w' a' (unB zs at').length (unB zs at')) ∧ Hid (Below w1.heap.size w1 w') ∧ Below w.heap.size w w') := by
    intro w1 hb
    refine (unframe_one a len cap zs at' w1 (hr.below hb hb.size) (hT.below hb hTs)).mono ?_
    rintro e w' ⟨a', c', rfl, hO, hb'⟩
    exact ⟨a', c', rfl, (unhide hO).has, hb', Below.chain hb hb' (Nat.le_refl _)⟩
  have K17 : Hid (∀ w1, Below w.heap.size w w1 → Calls Tryd.prog 17 #[.slice a len cap, .int .i64 at'] w1 fun e w' => ∃ a' c', e = .returned (.tuple #[.slice a' (unB zs at').length c', .int .i64 (unN zs at'), .int .i64 (unE zs at')]) ∧ Hid (Has w' a' (unB zs at').length (unB zs at')) ∧ Hid (Below w1.heap.size w1 w') ∧ Below w.heap.size w w') := by
    intro w1 hb
    refine (refUnframe_one a len cap zs at' w1 (hr.below hb hb.size)).mono ?_
    rintro e w' ⟨a', c', rfl, hO, hb'⟩
    exact ⟨a', c', rfl, (unhide hO).has, hb', Below.chain hb hb' (Nat.le_refl _)⟩
  have KS : Hid (∀ (ys : List Int) a1 a2 n c1 c2 w1, Hid (Has w1 a1 n ys ∧ Has w1 a2 n ys) → Calls Tryd.prog 18 #[.slice a1 n c1, .slice a2 n c2] w1 fun e w' => e = .returned (.bool true) ∧ w1 = w') :=
    fun ys a1 a2 n c1 c2 w1 h => same_true a1 a2 n c1 c2 ys w1 (unhide h).1 (unhide h).2
  generalize (frB zs).length = nF at *
  generalize frB zs = FB at *
  generalize frE zs = FE at *
  generalize (unB zs at').length = nU at *
  generalize unB zs at' = UB at *
  generalize unN zs at' = UN at *
  generalize unE zs at' = UE at *
  clear hr hT
  go_enter Tryd.func4, Tryd.ntmps4
  go_wp2_with (first
    | (go_at_call 9; refine (unhide KW).mono ?_; rintro e w1 ⟨rfl, hb1⟩)
    | (go_at_call 14; refine (unhide K14 _ hb1).mono ?_; rintro e w2 ⟨a2, c2, rfl, h2, s2, hb2⟩)
    | (go_at_call 15; refine (unhide K15 _ hb2).mono ?_; rintro e w3 ⟨a3, c3, rfl, h3, s3, hb3⟩)
    | (go_at_call 16; refine (unhide K16 _ hb3).mono ?_; rintro e w4 ⟨a4, c4, rfl, h4, s4, hb4⟩)
    | (go_at_call 17; refine (unhide K17 _ hb4).mono ?_; rintro e w5 ⟨a5, c5, rfl, h5, s5, hb5⟩; have H23 := hide (And.intro ((((unhide h2).below' (unhide s3)).below' (unhide s4)).below' (unhide s5)) (((unhide h3).below' (unhide s4)).below' (unhide s5))); have H45 := hide (And.intro ((unhide h4).below' (unhide s5)) (unhide h5))))
  go_at_call 18
  refine (unhide KS FB a2 a3 nF c2 c3 w5 H23).mono ?_
  rintro e w6 ⟨rfl, rfl⟩
  go_wp2_with fail
  go_at_call 18
  refine (unhide KS UB a4 a5 nU c4 c5 w5 H45).mono ?_
  rintro e w6 ⟨rfl, rfl⟩
  go_wp2_with fail
  go_ret
  exact ⟨rfl, hb5⟩

end Go.Proofs.YtleknpgkghkekaaDoor
