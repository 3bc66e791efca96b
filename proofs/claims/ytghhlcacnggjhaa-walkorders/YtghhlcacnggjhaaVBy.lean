/- walk.byNames, and slices.SortFunc with it. -/
import Derived.Test.YtghhlcacnggjhaaVSplit
import Derived.Test.YtghhlcacnggjhaaVCmp
import Derived.Shelf.SlSortCmp.Whole1
namespace Go.Proofs.Ytghhlcacnggjhaa
open Go.RowKit Go.Shelf Go.Sort
set_option linter.unusedVariables false
set_option maxRecDepth 100000

/-- The world of byNames: two boxes behind what was there. -/
def W2 (w : World) (q : Nat) (ra rb : List UInt8) : World := grow (w.drewN q) #[bx ra, bx rb]

theorem W2_a (w : World) (q : Nat) (ra rb : List UInt8) : (W2 w q ra rb).heap[w.heap.size]? = some (bx ra) := by
  simp [W2, grow, World.drewN]

theorem W2_b (w : World) (q : Nat) (ra rb : List UInt8) : (W2 w q ra rb).heap[w.heap.size + 1]? = some (bx rb) := by
  simp [W2, grow, World.drewN]

theorem W2_setA (w : World) (q n : Nat) (ra rb x : List UInt8) : ((W2 w q ra rb).drewN n).setCell ⟨w.heap.size, 0, none⟩ (sv x) = W2 w (q + n) x rb := by
  unfold W2 World.setCell grow World.drewN
  simp only [World.mk.injEq, and_true, true_and]
  refine ⟨?_, by omega⟩
  rw [modify_append_right _ _ _ _ (Nat.le_refl _), Nat.sub_self]
  rfl

theorem W2_setB (w : World) (q n : Nat) (ra rb x : List UInt8) : ((W2 w q ra rb).drewN n).setCell ⟨w.heap.size + 1, 0, none⟩ (sv x) = W2 w (q + n) ra x := by
  unfold W2 World.setCell grow World.drewN
  simp only [World.mk.injEq, and_true, true_and]
  refine ⟨?_, by omega⟩
  rw [modify_append_right _ _ _ _ (by omega), Nat.add_sub_cancel_left]
  rfl

theorem W2_start (w : World) (ra rb : List UInt8) : (w.alloc (bx ra)).alloc (bx rb) = W2 w 0 ra rb := by
  rw [alloc_eq_grow, alloc_eq_grow, grow_grow]
  rfl

theorem W2_rest (w : World) (q : Nat) (ra rb : List UInt8) : restLen w.heap.size (W2 w q ra rb) = ra.length := by
  unfold restLen
  rw [cell_box (W2_a w q ra rb)]
  exact St_size _

set_option maxHeartbeats 4000000 in
theorem by_any (a b : List UInt8) (w : World) (ha : a.length ≤ 200) (hb : b.length ≤ 200) :
    Calls Try.prog 29 #[.string (St a), .string (St b)] w fun e w' => e = .returned (.int .i64 (cmT a b)) ∧ ∃ q os, w' = grow (w.drewN q) os := by
  have KA := hide (seeker_any a w)
  have KB : Hid (∀ u, Calls Try.prog 20 #[.string (St b)] u fun e w' => e = .returned (.func (.func 33) #[] #[.pointer (some ⟨u.heap.size, 0, none⟩)]) ∧ w' = u.alloc (bx (drop1 b))) := fun u => seeker_any b u
  have HA : Hid ((drop1 a).length ≤ 200) := by have := drop1_len a; show _ ≤ _; omega
  have HB : Hid ((drop1 b).length ≤ 200) := by have := drop1_len b; show _ ≤ _; omega
  have HS := hide (W2_start w (drop1 a) (drop1 b))
  have HC : Hid (cmT a b = cmN (nm (drop1 a)) (nm (drop1 b))) := rfl
  have hsz : (w.alloc (bx (drop1 a))).heap.size = w.heap.size + 1 := by simp
  generalize cmT a b = q0 at *
  generalize St a = sa at *
  generalize St b = sb at *
  generalize drop1 a = ra0 at *
  generalize drop1 b = rb0 at *
  clear ha hb
  go_enter Try.func29, Try.ntmps29
  go_wp2_with fail
  refine (unhide KA).mono ?_
  rintro e w1 ⟨rfl, rfl⟩
  clear KA
  generalize hw1 : w.alloc (bx ra0) = w1 at *
  go_wp2_with fail
  refine (unhide KB _).mono ?_
  rintro e w2 ⟨rfl, rfl⟩
  clear KB
  rw [hsz, HS.out]
  clear HS hsz hw1
  have hg : Hid (W2 w 0 ra0 rb0 = W2 w 0 ra0 rb0) := rfl
  generalize hW : W2 w 0 ra0 rb0 = w2 at *
  generalize hG : w.heap.size = g at *
  go_wp2_with fail
  go_loopw [7] (fun v wr => ∃ q ra rb, Hid (wr = W2 w q ra rb ∧ ra.length ≤ 200 ∧ rb.length ≤ 200 ∧ q0 = cmN (nm ra) (nm rb))) (fun v wr => restLen g wr)
  case atStart => exact ⟨0, ra0, rb0, hW.symm, HA.out, HB.out, HC.out⟩
  case round =>
    obtain ⟨q, ra, rb, hI⟩ := hrel
    obtain ⟨rfl, h1, h2, h3⟩ := hI.out
    have KN := next_any ra g (W2 w q ra rb) (by omega) (by rw [← hG]; exact W2_a w q ra rb)
    have KM : Hid (∀ n, Calls Try.prog 33 #[.pointer (some ⟨g + 1, 0, none⟩)] (W2 w n (cutN ra).2 rb) fun e w' => e = .returned (.string (St (cutN rb).1)) ∧ ∃ m, w' = W2 w m (cutN ra).2 (cutN rb).2) := by
      intro n
      refine (next_any rb (g + 1) (W2 w n (cutN ra).2 rb) (by omega) (by rw [← hG]; exact W2_b w n _ rb)).mono ?_
      rintro e w' ⟨rfl, m, rfl⟩
      refine ⟨rfl, n + m, ?_⟩
      rw [← hG]
      exact W2_setB w n m _ rb _
    have hrest : Hid (restLen g (W2 w q ra rb) = ra.length) := by rw [← hG]; exact W2_rest w q ra rb
    have hrest2 : Hid (∀ m, restLen g (W2 w m (cutN ra).2 (cutN rb).2) = (cutN ra).2.length) := fun m => by rw [← hG]; exact W2_rest w m _ _
    have hset : Hid (∀ n, ((W2 w q ra rb).drewN n).setCell ⟨g, 0, none⟩ (sv (cutN ra).2) = W2 w (q + n) (cutN ra).2 rb) := fun n => by rw [← hG]; exact W2_setA w q n ra rb _
    have hend : Hid (∀ m, ∃ q os, W2 w m (cutN ra).2 (cutN rb).2 = grow (w.drewN q) os) := fun m => ⟨_, _, rfl⟩
    have hla := cutN_len ra
    have hlb := cutN_len rb
    rw [cmN_step] at h3
    have d1 := St_toList (cutN ra).1
    have d2 := St_toList (cutN rb).1
    have KC : Hid (∀ u, Calls Try.prog 43 #[.string (St (cutN ra).1), .string (St (cutN rb).1)] u fun e w' => e = .returned (.int .i64 (Lib.compareBytes (cutN ra).1 (cutN rb).1)) ∧ w' = u) := fun u => comp_any _ _ u
    have KN := hide KN
    clear hI
    generalize W2 w q ra rb = wa at *
    go_wp2_with fail
    refine (unhide KN).mono ?_
    rintro e w1 ⟨rfl, n, rfl⟩
    rw [hset.out n]
    have KM := hide (KM.out (q + n))
    clear KN hset
    generalize W2 w (q + n) (cutN ra).2 rb = wb at *
    go_wp2_with fail
    refine (unhide KM).mono ?_
    rintro e w2 ⟨rfl, m, rfl⟩
    clear KM
    have hr2 := hide (hrest2.out m)
    have he := hide (hend.out m)
    have HI : Hid (q0 = cmN (nm (cutN ra).2) (nm (cutN rb).2) → ∃ q ra' rb', W2 w m (cutN ra).2 (cutN rb).2 = W2 w q ra' rb' ∧ ra'.length ≤ 200 ∧ rb'.length ≤ 200 ∧ q0 = cmN (nm ra') (nm rb')) := fun h => ⟨m, _, _, rfl, by omega, by omega, h⟩
    clear hrest2 hend
    generalize W2 w m (cutN ra).2 (cutN rb).2 = wc at *
    by_cases hs : (cutN ra).1 ≠ (cutN rb).1 ∨ (cutN ra).1 = []
    · rw [if_pos hs] at h3
      have KC := hide (KC.out wc)
      have d3 : ((St (cutN ra).1).toList == (St (cutN rb).1).toList) = false ∨ ((St (cutN ra).1).toList == (St (cutN rb).1).toList) = true ∧ (St (cutN ra).1).toList.isEmpty = true := by
        rw [d1, d2]
        by_cases e : (cutN ra).1 = (cutN rb).1
        · right
          rcases hs with hs | hs
          · exact absurd e hs
          · refine ⟨by simpa using e, by rw [hs]; rfl⟩
        · left; simpa using e
      rw [← h3] at KC
      clear h3 HI hs d1 d2
      generalize St (cutN ra).1 = sx at *
      generalize St (cutN rb).1 = sy at *
      rcases d3 with d3 | ⟨d3, d4⟩
      · go_wp2_with fail
        refine (unhide KC).mono ?_
        rintro e w3 ⟨rfl, rfl⟩
        clear KC
        go_wp2_with fail
        go_ret
        exact ⟨rfl, he.out⟩
      · go_wp2_with fail
        refine (unhide KC).mono ?_
        rintro e w3 ⟨rfl, rfl⟩
        clear KC
        go_wp2_with fail
        go_ret
        exact ⟨rfl, he.out⟩
    · rw [if_neg hs] at h3
      obtain ⟨q', ra', rb', hI'⟩ := HI.out h3
      have HI' := hide hI'
      have hne : (cutN ra).1 ≠ [] := fun e => hs (.inr e)
      have heq : (cutN ra).1 = (cutN rb).1 := Classical.byContradiction fun e => hs (.inl e)
      have d3 : ((St (cutN ra).1).toList == (St (cutN rb).1).toList) = true := by rw [d1, d2]; simpa using heq
      have d4 : (St (cutN ra).1).toList.isEmpty = false := by
        rw [d1]
        cases h : (cutN ra).1 with
        | nil => exact absurd h hne
        | cons _ _ => rfl
      have HM : Hid (restLen g wc < restLen g wa) := by
        have h4 := hr2.out
        have h5 := hrest.out
        have h6 : 1 ≤ (cutN ra).1.length := by
          cases h : (cutN ra).1 with
          | nil => exact absurd h hne
          | cons _ _ => simp
        show _ < _
        omega
      clear h3 HI hI' hs d1 d2 hne heq KC hr2 hrest
      generalize St (cutN ra).1 = sx at *
      generalize St (cutN rb).1 = sy at *
      go_wp2_with fail
      go_roundw
      case rel => exact ⟨q', ra', rb', HI'⟩
      case measure => exact HM.out

/-- A text that may be a path. -/
abbrev P200 := {p : List UInt8 // p.length ≤ 200}

instance : Inhabited P200 := ⟨⟨[], by simp⟩⟩

def encP (x : P200) : Value := sv x.1

def cfP (x y : P200) : Int := cmT x.1 y.1

theorem cfP_swo : SWO (ltOf cfP) where
  irrefl x := by unfold ltOf cfP cmT; rw [cmN_refl]; rfl
  trans x y z h k := by
    unfold ltOf cfP cmT at *
    simp only [decide_eq_true_eq] at *
    exact cmN_trans h k
  ntrans x y z h k := by
    unfold ltOf cfP cmT at *
    simp only [decide_eq_false_iff_not] at *
    intro hz
    have n1 := cmN_neg (nms x.1) (nms y.1)
    have n2 := cmN_neg (nms y.1) (nms z.1)
    by_cases e1 : cmN (nms y.1) (nms x.1) = 0
    · rw [← cmN_zero e1] at hz; exact k hz
    · by_cases e2 : cmN (nms z.1) (nms y.1) = 0
      · rw [cmN_zero e2] at hz; exact h hz
      · have h1 : cmN (nms y.1) (nms z.1) < 0 := cmN_trans (show cmN (nms y.1) (nms x.1) < 0 by omega) hz
        exact k h1

shelf_lay_g SlLaysF.n6 Slsf 6 at Try 28 as Try.sortL

theorem by_cmp (g0 off size : Nat) (w : World) : CmpLays1 Try.prog 29 #[] encP cfP g0 off size w := by
  intro m os dk hs x y
  refine (by_any x.1 y.1 _ x.2 y.2).mono ?_
  rintro e w' ⟨rfl, q, os', rfl⟩
  exact ⟨rfl, q, os', rfl⟩

theorem sort_any (g c : Nat) (d : Array P200) (w : World) (hH : Holds encP w g 0 d) (hg : g < w.heap.size) (hsz : d.size < 4611686018427387904) :
    Calls Try.prog 28 #[.slice (some ⟨g, 0, none⟩) d.size c, .func (.func 29) #[] #[]] w fun e w' =>
      e = .returned (.tuple #[]) ∧ ∃ d' n os, PermIn 0 d.size d d' ∧ SortedIn (ltOf cfP) 0 d.size d' ∧ w' = sortWorld encP w g 0 n d' os :=
  Any.slices_SortFunc Try.sortL encP (fun x => rfl) cfP cfP_swo 29 #[] g 0 c d w (enters_of Try.func29 (by kernel_rfl) rfl) (by_cmp g 0 d.size w) hH hg hsz

end Go.Proofs.Ytghhlcacnggjhaa
