/- Joined: VSplit, VAbove. -/
import Derived.Test.YtknmgefpjdfenaaGreatTnVJoin
import Derived.Test.YtknmgefpjdfenaaGreatTnJ26
import Derived.Test.YtknmgefpjdfenaaGreatTnVSame
/- walk.Split: every text. -/
namespace Go.Proofs.YtknmgefpjdfenaaGreat
open Go.RowKit Go.Shelf
set_option linter.unusedVariables false
set_option maxRecDepth 100000

theorem app1S {B : Nat} {w : World} {a : Option Addr} {n c : Nat} {xs : List (List UInt8)} (h : OwnS B w a n c xs) (hB : B ≤ w.heap.size) (x : List UInt8) (hn : n + 1 ≤ 8796093022208) :
    ∃ a' c' w', (∀ ty, (Builtin.append_ #[103, 103] ty #[.slice a n c, .slice (some ⟨w.heap.size, 0, none⟩) 1 1]).run Tryz.prog (w.alloc (.cells #[.string (St x)] 9)) = .ok (.slice a' (n + 1) c') w') ∧ OwnS B w' a' (n + 1) c' (xs ++ [x]) ∧
      (∀ k, k < w.heap.size → (∀ g, a = some ⟨g, 0, none⟩ → k ≠ g) → w'.heap[k]? = w.heap[k]?) ∧ Below B w w' := by
  have hb0 : Below w.heap.size w (w.alloc (.cells #[.string (St x)] 9)) := (Below.refl _ w).alloc (Nat.le_refl _) _
  have h1 := h.below hb0 (Nat.le_refl _)
  have h2 : HasS (w.alloc (.cells #[.string (St x)] 9)) (some ⟨w.heap.size, 0, none⟩) 1 [x] := by
    refine ⟨rfl, fun _ => ⟨w.heap.size, 0, rfl, by simp, fun j hj => ?_⟩⟩
    obtain rfl : j = 0 := by omega
    simp only [World.cell?, World.alloc_heap_new]
    rfl
  obtain ⟨a', c', w', r, o, k, b⟩ := run_appS h1 (by have := hb0.size; omega) 1 h2 hn
  refine ⟨a', c', w', r, o, fun i hi hne => ?_, (hb0.mono hB).trans b⟩
  rw [k i (by have := hb0.size; omega) hne]
  exact hb0.block i hi

def strLen : Value → Nat
  | .string s => s.size
  | _ => 0

/-- The rest that a function of seeker has still to go through. -/
def restLen (g : Nat) (w : World) : Nat := strLen ((w.cell? ⟨g, 0, none⟩).getD (.bool false))

/-- Where Split's loop stands: x the name found last, ds those ahead of it, r the rest. -/
def SpI (w : World) (p : List UInt8) (g : Nat) (a : Option Addr) (k c : Nat) (x : List UInt8) (wr : World) : Prop :=
  ∃ ds r, ds.length = k ∧ OwnS (g + 1) wr a k c ds ∧ wr.heap[g]? = some (bx r) ∧ Below w.heap.size w wr ∧ w.heap.size ≤ g ∧ g < wr.heap.size ∧ ds.length + x.length + r.length ≤ 200 ∧
    nms p = ds ++ (if x = [] then [] else x :: nm r)

theorem SpI.stop {w wr : World} {p : List UInt8} {g k c : Nat} {a : Option Addr} (h : SpI w p g a k c [] wr) : OwnS w.heap.size wr a k c (nms p) ∧ Below w.heap.size w wr ∧ (nms p).length = k := by
  obtain ⟨ds, r, h1, h2, h3, h4, h5, h6, h7, h8⟩ := h
  rw [if_pos rfl, List.append_nil] at h8
  rw [h8]
  exact ⟨h2.base (by omega), h4, h1⟩

theorem SpI.small {w wr : World} {p x : List UInt8} {g k c : Nat} {a : Option Addr} (h : SpI w p g a k c x wr) : k ≤ 200 := by
  obtain ⟨ds, r, h1, h2, h3, h4, h5, h6, h7, h8⟩ := h
  omega

theorem setBox {w : World} {g : Nat} {l r : List UInt8} (h : w.heap[g]? = some (bx l)) (n : Nat) : ((w.drewN n).setCell ⟨g, 0, none⟩ (sv r)).heap[g]? = some (bx r) := by
  have h' : (w.drewN n).heap[g]? = some (.cells #[sv l] 9 (0, 0)) := h
  rw [setCell_eq_setRow _ g 0 _ 9 (0, 0) _ h', setRow_heap _ g _ _ 9 _ h']
  rfl

theorem setOther {w : World} {g k : Nat} {v : Value} (n : Nat) (h : k ≠ g) : ((w.drewN n).setCell ⟨g, 0, none⟩ v).heap[k]? = w.heap[k]? := by
  simp only [World.setCell]
  rw [Array.getElem?_modify, if_neg (fun e => h e.symm)]
  rfl

theorem setSize (w : World) (g n : Nat) (v : Value) : ((w.drewN n).setCell ⟨g, 0, none⟩ v).heap.size = w.heap.size := by
  simp [World.setCell, World.drewN]

theorem setBelow {w0 w : World} {m g n : Nat} {v : Value} (h : Below m w0 w) (hg : m ≤ g) : Below m w0 ((w.drewN n).setCell ⟨g, 0, none⟩ v) :=
  ⟨h.os, h.tape, h.output, by rw [setSize]; exact h.size, fun k hk => by rw [setOther n (by omega)]; exact h.block k hk⟩

theorem SpI.start {w wr : World} {p : List UInt8} (h : Below w.heap.size w wr) (hp : p.length ≤ 200) (n : Nat) :
    SpI w p wr.heap.size none 0 0 (cutN (drop1 p)).1 (((wr.alloc (bx (drop1 p))).drewN n).setCell ⟨wr.heap.size, 0, none⟩ (sv (cutN (drop1 p)).2)) := by
  have hb0 : Below w.heap.size w (wr.alloc (bx (drop1 p))) := h.alloc h.size _
  refine ⟨[], (cutN (drop1 p)).2, rfl, OwnS.nil _ _, setBox (l := drop1 p) (by rw [World.alloc_heap_new]) n, setBelow hb0 h.size, h.size, by rw [setSize]; simp, ?_, ?_⟩
  · have := cutN_len (drop1 p)
    have := drop1_len p
    simp; omega
  · rw [List.nil_append]; exact nm_step _

/-- A round of Split's loop: the name is noted, the next one sought. -/
theorem SpI.next {w wr : World} {p x : List UInt8} {g k c : Nat} {a : Option Addr} (h : SpI w p g a k c x wr) (hx : x ≠ []) :
    ∃ a' c' w1 r, (∀ ty, (Builtin.append_ #[103, 103] ty #[.slice a k c, .slice (some ⟨wr.heap.size, 0, none⟩) 1 1]).run Tryz.prog (wr.alloc (.cells #[.string (St x)] 9)) = .ok (.slice a' (k + 1) c') w1) ∧
      w1.heap[g]? = some (bx r) ∧ r.length ≤ 200 ∧ (∀ n, SpI w p g a' (k + 1) c' (cutN r).1 ((w1.drewN n).setCell ⟨g, 0, none⟩ (sv (cutN r).2)) ∧
      (cutN r).1.length + restLen g ((w1.drewN n).setCell ⟨g, 0, none⟩ (sv (cutN r).2)) < x.length + restLen g wr) := by
  obtain ⟨ds, r, h1, h2, h3, h4, h5, h6, h7, h8⟩ := h
  obtain ⟨a', c', w1, r1, o1, k1, b1⟩ := app1S h2 (by omega) x (by omega)
  have hg1 : w1.heap[g]? = some (bx r) := by
    rw [k1 g h6 (fun g' e => by have := (h2.lt e).2; omega)]
    exact h3
  have hbw : Below w.heap.size w w1 := h4.trans (b1.mono (by omega))
  have hx1 : 1 ≤ x.length := by
    cases x with
    | nil => exact absurd rfl hx
    | cons _ _ => simp
  have hcl := cutN_len r
  refine ⟨a', c', w1, r, r1, hg1, by omega, fun n => ⟨⟨ds ++ [x], (cutN r).2, by simp [h1], ?_, setBox hg1 n, setBelow hbw h5, h5, by rw [setSize]; exact Nat.lt_of_lt_of_le h6 b1.size, ?_, ?_⟩, ?_⟩⟩
  · exact o1.kept (fun g' e => setOther n (by have := (o1.lt e).2; omega))
  · simp; omega
  · rw [h8, if_neg hx, List.append_assoc, List.singleton_append, ← nm_step]
  · have e1 : restLen g ((w1.drewN n).setCell ⟨g, 0, none⟩ (sv (cutN r).2)) = (cutN r).2.length := by
      unfold restLen
      rw [cell_box (setBox hg1 n)]
      exact St_size _
    have e2 : restLen g wr = r.length := by
      unfold restLen
      rw [cell_box h3]
      exact St_size _
    rw [e1, e2]
    omega

set_option maxHeartbeats 4000000 in
theorem split_any (p : List UInt8) (w : World) (hp : p.length ≤ 9223372036854775807) :
    Calls Tryz.prog 93 #[.string (St p)] w fun e w' => ∃ a c, e = .returned (.tuple #[.slice a ((spl p).getD []).length c, .int .i64 (splE p)]) ∧ OwnS w.heap.size w' a ((spl p).getD []).length c ((spl p).getD []) ∧ Below w.heap.size w w' := by
  have hs := St_size p
  by_cases h200 : p.length ≤ 200
  · have KC := hide (clone_any p w (by omega))
    have KS : Hid (∀ u, Calls Tryz.prog 113 #[.string (St p)] u fun e w' => e = .returned (.func (.func 130) #[] #[.pointer (some ⟨u.heap.size, 0, none⟩)]) ∧ w' = u.alloc (bx (drop1 p))) := fun u => seeker_any p u
    have d1 : decide (((St p).size : Int) > 200) = false := by rw [hs]; simp; omega
    have hd := drop1_len p
    have HP := hide h200
    generalize hS : St p = s at *
    go_enter Tryz.func93, Tryz.ntmps93
    go_wp2_with fail
    refine (unhide KC).mono ?_
    rintro e w1 ⟨rfl, hb⟩
    have HB := hide hb
    clear KC hb
    go_wp2_with fail
    refine ((unhide KS) _).mono ?_
    rintro e w2 ⟨rfl, rfl⟩
    clear KS
    have KN := hide (next_any (drop1 p) w1.heap.size (w1.alloc (bx (drop1 p))) (by omega) (by rw [World.alloc_heap_new]))
    have HSt : Hid (∀ n, SpI w p w1.heap.size none 0 0 (cutN (drop1 p)).1 (((w1.alloc (bx (drop1 p))).drewN n).setCell ⟨w1.heap.size, 0, none⟩ (sv (cutN (drop1 p)).2))) := fun n => SpI.start HB.out h200 n
    generalize w1.alloc (bx (drop1 p)) = w2 at *
    generalize w1.heap.size = g at *
    go_wp2_with fail
    refine (unhide KN).mono ?_
    rintro e w3 ⟨rfl, n, rfl⟩
    have HSt := hide (HSt.out n)
    clear KN HB
    generalize (w2.drewN n).setCell ⟨g, 0, none⟩ (sv (cutN (drop1 p)).2) = w3 at *
    generalize (cutN (drop1 p)).1 = x0 at *
    go_wp2_with fail
    go_loopw [5, 6] (fun l v wr => ∃ a k c x, l = .slice a k c ∧ v = .string (St x) ∧ Hid (SpI w p g a k c x wr)) (fun _ v wr => strLen v + restLen g wr)
    case atStart => exact ⟨none, 0, 0, x0, rfl, rfl, HSt⟩
    case round =>
      obtain ⟨a, k, c, x, rfl, rfl, hI⟩ := hrel
      by_cases hx : x = []
      · subst hx
        obtain ⟨hO, hB, hk⟩ := hI.out.stop
        have KJ := join_any a k c (nms p) wr hO.has hO.2.1 (by have := hI.out.small; omega) (fun j => nms_get p (by omega) j)
        have HR : Hid (OwnS w.heap.size wr a k c (nms p) ∧ Below w.heap.size w wr ∧ (nms p).length = k) := ⟨hO, hB, hk⟩
        have hsp : Hid (spl p = if okN (nms p) = true ∧ jn (nms p) = p then some (nms p) else none) := rfl
        have hstS := hide (St_toList p)
        rw [hS] at hstS
        have d0 : (St []).toList.isEmpty = true := by rw [St_toList]; rfl
        clear hO hB hk hI HSt
        generalize hS0 : St [] = s0 at *
        by_cases ok : okN (nms p) = true
        · by_cases hj : jn (nms p) = p
          · have hsp : Hid (spl p = some (nms p)) := if_pos ⟨ok, hj⟩
            unfold jnV jnE at KJ
            rw [if_pos ok, if_pos ok, hj, hS] at KJ
            have KJ := hide KJ
            clear ok hj
            go_wp2_with fail
            refine (unhide KJ).mono ?_
            rintro e w4 ⟨rfl, hb⟩
            have HB := hide hb
            clear KJ hb
            go_wp2_with fail
            go_ret2
            obtain ⟨h1, h2, h3⟩ := HR.out
            refine ⟨a, c, ?_, ?_, h2.trans (HB.out.mono h2.size)⟩
            · unfold splE; rw [hsp.out]; exact congrArg (fun m => Ending.returned (.tuple #[.slice a m c, .int .i64 0])) h3.symm
            · rw [hsp.out]; show OwnS _ _ _ (nms p).length _ (nms p); rw [h3]; exact h1.below HB.out (Nat.le_refl _)
          · have hsp : Hid (spl p = none) := if_neg (fun h => hj h.2)
            unfold jnV jnE at KJ
            rw [if_pos ok, if_pos ok] at KJ
            have d4 : ((St (jn (nms p))).toList == s.toList) = false := by rw [St_toList, hstS.out]; simpa using hj
            have KJ := hide KJ
            clear ok hj
            generalize St (jn (nms p)) = sj at *
            go_wp2_with fail
            refine (unhide KJ).mono ?_
            rintro e w4 ⟨rfl, hb⟩
            have HB := hide hb
            clear KJ hb
            go_wp2_with fail
            go_ret2
            obtain ⟨h1, h2, h3⟩ := HR.out
            refine ⟨none, 0, ?_, ?_, h2.trans (HB.out.mono h2.size)⟩
            · unfold splE; rw [hsp.out]; rfl
            · rw [hsp.out]; exact OwnS.nil _ _
        · have hsp : Hid (spl p = none) := if_neg (fun h => ok h.1)
          unfold jnV jnE at KJ
          rw [if_neg ok, if_neg ok, hS0] at KJ
          have KJ := hide KJ
          clear ok
          go_wp2_with fail
          refine (unhide KJ).mono ?_
          rintro e w4 ⟨rfl, hb⟩
          have HB := hide hb
          clear KJ hb
          go_wp2_with fail
          go_ret2
          obtain ⟨h1, h2, h3⟩ := HR.out
          refine ⟨none, 0, ?_, ?_, h2.trans (HB.out.mono h2.size)⟩
          · unfold splE; rw [hsp.out]; rfl
          · rw [hsp.out]; exact OwnS.nil _ _
      · obtain ⟨a', c', w1, r, R1, hg, hr, HN⟩ := hI.out.next hx
        have KN := hide (next_any r g w1 (by omega) hg)
        have HN := hide HN
        have R1 := hide R1
        have d3 : ((St x).toList == []) = false := by rw [St_toList]; simpa using hx
        have HL := hide (St_size x)
        clear hI hg hx HSt
        generalize hsx : St x = sx at *
        go_wp2_with (at_builtin; refine wpList_append_run 103 rfl _ _ rfl _ _ _ rfl rfl (unhide R1) ?_; clear R1)
        refine (unhide KN).mono ?_
        rintro e w4 ⟨rfl, n, rfl⟩
        obtain ⟨hN1, hN2⟩ := HN.out n
        have HN1 := hide hN1
        have HN2 := hide hN2
        clear KN HN hN1 hN2
        generalize (w1.drewN n).setCell ⟨g, 0, none⟩ (sv (cutN r).2) = w4 at *
        have HL2 := hide (St_size (cutN r).1)
        generalize (cutN r).1 = x' at *
        go_wp2_with fail
        go_roundw
        case rel => exact ⟨a', k + 1, c', x', rfl, rfl, HN1⟩
        case measure =>
          have h1 := HN2.out
          have h2 := HL.out
          have h3 := HL2.out
          show (St x').size + restLen g w4 < sx.size + restLen g wr
          rw [h2, h3]
          exact h1
  · have hn : spl p = none := by
      cases h : spl p with
      | none => rfl
      | some ns => exact absurd (spl_len h) h200
    unfold splE
    rw [hn]
    show Calls _ _ _ _ fun e w' => ∃ a c, e = .returned (.tuple #[.slice a 0 c, .int .i64 16]) ∧ OwnS w.heap.size w' a 0 c [] ∧ _
    have d1 : decide (((St p).size : Int) > 200) = true := by rw [hs]; simp; omega
    have hp' : (St p).size ≤ 9223372036854775807 := by rw [hs]; exact hp
    generalize St p = s at *
    clear hs hn h200 hp
    go_enter Tryz.func93, Tryz.ntmps93
    go_wp2_with fail
    go_ret2
    exact ⟨none, 0, rfl, OwnS.nil _ _, Below.refl _ _⟩

end Go.Proofs.YtknmgefpjdfenaaGreat

/- walk.Parent, walk.Above, and the fixed call of the laws. -/
namespace Go.Proofs.YtknmgefpjdfenaaGreat
open Go.RowKit Go.Shelf
set_option linter.unusedVariables false
set_option maxRecDepth 100000

/-- What Above answers of two paths. -/
def abo (xs ys : List (List UInt8)) : Bool := decide (xs.length ≤ ys.length) && decide (xs = ys.take xs.length)

theorem splE_none {p : List UInt8} (h : spl p = none) : splE p = 16 := by unfold splE; rw [h]; rfl

theorem splE_some {p : List UInt8} {ns : List (List UInt8)} (h : spl p = some ns) : splE p = 0 := by unfold splE; rw [h]; rfl

theorem split_no {p : List UInt8} (w : World) (hp : p.length ≤ 9223372036854775807) (h : spl p = none) :
    Calls Tryz.prog 93 #[.string (St p)] w fun e w' => (∃ a c, e = .returned (.tuple #[.slice a 0 c, .int .i64 16])) ∧ Below w.heap.size w w' := by
  refine (split_any p w hp).mono ?_
  rintro e w' ⟨a, c, rfl, ho, hb⟩
  rw [splE_none h, h]
  exact ⟨⟨a, c, rfl⟩, hb⟩

theorem split_yes {p : List UInt8} {ns : List (List UInt8)} (w : World) (h : spl p = some ns) :
    Calls Tryz.prog 93 #[.string (St p)] w fun e w' => ∃ a c, e = .returned (.tuple #[.slice a ns.length c, .int .i64 0]) ∧ OwnS w.heap.size w' a ns.length c ns ∧ Below w.heap.size w w' := by
  refine (split_any p w (by have := spl_len h; omega)).mono ?_
  rintro e w' ⟨a, c, rfl, ho, hb⟩
  rw [splE_some h, h]
  rw [h] at ho
  exact ⟨a, c, rfl, ho, hb⟩

set_option maxHeartbeats 1000000 in
theorem above_no1 {a b : List UInt8} (w : World) (ha : a.length ≤ 9223372036854775807) (h : spl a = none) :
    Calls Tryz.prog 55 #[.string (St a), .string (St b)] w fun e w' => e = .returned (.tuple #[.bool false, .int .i64 16]) ∧ Below w.heap.size w w' := by
  have K := hide (split_no w ha h)
  clear h
  generalize St a = sa at *
  generalize St b = sb at *
  go_enter Tryz.func55, Tryz.ntmps55
  go_wp2_with fail
  refine (unhide K).mono ?_
  rintro e w1 ⟨⟨x, c, rfl⟩, hb⟩
  have HB := hide hb
  clear K hb
  go_wp2_with fail
  go_ret2
  exact ⟨rfl, HB.out⟩

set_option maxHeartbeats 1000000 in
theorem above_no2 {a b : List UInt8} {xs : List (List UInt8)} (w : World) (hl : b.length ≤ 9223372036854775807) (ha : spl a = some xs) (h : spl b = none) :
    Calls Tryz.prog 55 #[.string (St a), .string (St b)] w fun e w' => e = .returned (.tuple #[.bool false, .int .i64 16]) ∧ Below w.heap.size w w' := by
  have K := hide (split_yes w ha)
  have K2 : Hid (∀ u, Calls Tryz.prog 93 #[.string (St b)] u fun e w' => (∃ a c, e = .returned (.tuple #[.slice a 0 c, .int .i64 16])) ∧ Below u.heap.size u w') := fun u => split_no u hl h
  clear h ha
  generalize St a = sa at *
  generalize St b = sb at *
  generalize xs.length = n at *
  go_enter Tryz.func55, Tryz.ntmps55
  go_wp2_with fail
  refine (unhide K).mono ?_
  rintro e w1 ⟨x, c, rfl, ho, hb⟩
  have HB := hide hb
  clear K hb ho
  go_wp2_with fail
  refine (unhide K2 _).mono ?_
  rintro e w2 ⟨⟨y, c2, rfl⟩, hb⟩
  have HB := hide (HB.out.trans (hb.mono HB.out.size))
  clear K2 hb
  go_wp2_with fail
  go_ret2
  exact ⟨rfl, HB.out⟩

set_option maxHeartbeats 2000000 in
theorem above_yes {a b : List UInt8} {xs ys : List (List UInt8)} (w : World) (ha : spl a = some xs) (hb : spl b = some ys) :
    Calls Tryz.prog 55 #[.string (St a), .string (St b)] w fun e w' => e = .returned (.tuple #[.bool (abo xs ys), .int .i64 0]) ∧ Below w.heap.size w w' := by
  have h16 := ((okN_iff ys).1 (spl_some hb).1).1
  have h16' := ((okN_iff xs).1 (spl_some ha).1).1
  have K := hide (split_yes w ha)
  have K2 : Hid (∀ u, Calls Tryz.prog 93 #[.string (St b)] u fun e w' => ∃ a c, e = .returned (.tuple #[.slice a ys.length c, .int .i64 0]) ∧ OwnS u.heap.size w' a ys.length c ys ∧ Below u.heap.size u w') := fun u => split_yes u hb
  have hn := hide (Eq.refl xs.length)
  have hm := hide (Eq.refl ys.length)
  unfold abo
  clear ha hb
  generalize St a = sa at *
  generalize St b = sb at *
  by_cases hle : xs.length ≤ ys.length
  · have KE : Hid (∀ x y c1 c2 u, HasS u x xs.length xs → HasS u y ys.length ys → Calls Tryz.prog 94 #[.slice x xs.length c1, .slice y xs.length c2] u fun e w' => e = .returned (.bool (decide (xs.length ≤ ys.length) && decide (xs = ys.take xs.length))) ∧ ∃ m, w' = u.drewN m) := by
      intro x y c1 c2 u h1 h2
      have e : (decide (xs.length ≤ ys.length) && decide (xs = ys.take xs.length)) = decide (xs = ys.take xs.length) := by simp [hle]
      rw [e]
      exact equal_any x y xs.length c1 c2 xs (ys.take xs.length) u h1 (h2.take hle) (by omega)
    generalize (decide (xs.length ≤ ys.length) && decide (xs = ys.take xs.length)) = q at *
    generalize hN : xs.length = n at *
    generalize hM : ys.length = m at *
    have d1 : decide ((n : Int) ≤ (m : Int)) = true := by simp; omega
    go_enter Tryz.func55, Tryz.ntmps55
    go_wp2_with fail
    refine (unhide K).mono ?_
    rintro e w1 ⟨x, c, rfl, ho, hb⟩
    have HB := hide hb
    have HO := hide ho
    clear K hb ho
    go_wp2_with fail
    refine (unhide K2 _).mono ?_
    rintro e w2 ⟨y, c2, rfl, ho, hb⟩
    have hcut : (Instr.slice 103 (.slice y m c2) none (some (.int .i64 (n : Int))) none).run Tryz.prog w2 = .ok (.slice y n c2) w2 := by
      have := run_cutS_h y m c2 n (by have := ho.2.1; omega) w2
      rwa [cutAt_zero] at this
    have KE := hide (KE.out x y c c2 w2 ((HO.out.below hb (Nat.le_refl _)).has) ho.has)
    have HB := hide (HB.out.trans (hb.mono HB.out.size))
    clear K2 hb ho HO
    go_wp2_with fail
    refine (unhide KE).mono ?_
    rintro e w3 ⟨rfl, k, rfl⟩
    clear KE
    go_wp2_with fail
    go_ret2
    exact ⟨rfl, HB.out.os, HB.out.tape, HB.out.output, HB.out.size, HB.out.block⟩
  · have e : (decide (xs.length ≤ ys.length) && decide (xs = ys.take xs.length)) = false := by simp [hle]
    rw [e]
    clear e
    generalize hN : xs.length = n at *
    generalize hM : ys.length = m at *
    have d1 : decide ((n : Int) ≤ (m : Int)) = false := by simp; omega
    go_enter Tryz.func55, Tryz.ntmps55
    go_wp2_with fail
    refine (unhide K).mono ?_
    rintro e w1 ⟨x, c, rfl, ho, hb⟩
    have HB := hide hb
    clear K hb ho
    go_wp2_with fail
    refine (unhide K2 _).mono ?_
    rintro e w2 ⟨y, c2, rfl, ho, hb⟩
    have HB := hide (HB.out.trans (hb.mono HB.out.size))
    clear K2 hb ho
    go_wp2_with fail
    go_ret2
    exact ⟨rfl, HB.out⟩

set_option maxHeartbeats 1000000 in
theorem parent_no {p : List UInt8} (w : World) (hp : p.length ≤ 9223372036854775807) (h : spl p = none) :
    Calls Tryz.prog 95 #[.string (St p)] w fun e w' => e = .returned (.tuple #[.string ⟨#[]⟩, .string ⟨#[]⟩, .int .i64 16]) ∧ Below w.heap.size w w' := by
  have K := hide (split_no w hp h)
  clear h
  generalize St p = sp at *
  go_enter Tryz.func95, Tryz.ntmps95
  go_wp2_with fail
  refine (unhide K).mono ?_
  rintro e w1 ⟨⟨x, c, rfl⟩, hb⟩
  have HB := hide hb
  clear K hb
  go_wp2_with fail
  go_ret3
  exact ⟨rfl, HB.out⟩

set_option maxHeartbeats 1000000 in
theorem parent_root {p : List UInt8} (w : World) (h : spl p = some []) :
    Calls Tryz.prog 95 #[.string (St p)] w fun e w' => e = .returned (.tuple #[.string ⟨#[]⟩, .string ⟨#[]⟩, .int .i64 1]) ∧ Below w.heap.size w w' := by
  have K : Hid (Calls Tryz.prog 93 #[.string (St p)] w fun e w' => ∃ a c, e = .returned (.tuple #[.slice a 0 c, .int .i64 0]) ∧ OwnS w.heap.size w' a 0 c [] ∧ Below w.heap.size w w') := split_yes w h
  clear h
  generalize St p = sp at *
  go_enter Tryz.func95, Tryz.ntmps95
  go_wp2_with fail
  refine (unhide K).mono ?_
  rintro e w1 ⟨x, c, rfl, ho, hb⟩
  have HB := hide hb
  clear K hb ho
  go_wp2_with fail
  go_ret3
  exact ⟨rfl, HB.out⟩

set_option maxHeartbeats 2000000 in
theorem parent_yes {p z : List UInt8} {ms : List (List UInt8)} (w : World) (h : spl p = some (ms ++ [z])) :
    Calls Tryz.prog 95 #[.string (St p)] w fun e w' => e = .returned (.tuple #[.string (St (jn ms)), .string (St z), .int .i64 0]) ∧ Below w.heap.size w w' := by
  have ok := (spl_some h).1
  have h16 := ((okN_iff _).1 ok).1
  have hmem := ((okN_iff _).1 ok).2.1
  have okm : okN ms = true := by
    have := okN_take ok ms.length
    rwa [List.take_left] at this
  have K := hide (split_yes w h)
  have hl : (ms ++ [z]).length = ms.length + 1 := by simp
  have KJ : Hid (∀ a c u, OwnS w.heap.size u a (ms ++ [z]).length c (ms ++ [z]) → Calls Tryz.prog 114 #[.slice a ms.length c] u fun e w' => e = .returned (.tuple #[.string (St (jn ms)), .int .i64 0]) ∧ Below u.heap.size u w') := by
    intro a c u ho
    have hh := ho.has.take (k := ms.length) (by omega)
    rw [List.take_left] at hh
    have := join_any a ms.length c ms u hh (by have := ho.2.1; omega) (by omega) (fun j => by
      cases hj : ms[j]? with
      | none => simp
      | some y => have := (nmB_len (hmem y (by simp [List.mem_of_getElem? hj]))).2; simp; omega)
    unfold jnV jnE at this
    rwa [if_pos okm, if_pos okm] at this
  have HZ : Hid (∀ a c u, OwnS w.heap.size u a (ms ++ [z]).length c (ms ++ [z]) → ∃ g, a = some ⟨g, 0, none⟩ ∧ u.cell? ⟨g, ms.length, none⟩ = some (.string (St z))) := by
    intro a c u ho
    obtain ⟨g, e, _, _, hc, _⟩ := ho.cell (j := ms.length) (by omega)
    refine ⟨g, e, ?_⟩
    rw [hc]
    simp [sv]
  clear h ok hmem okm
  rw [hl] at K KJ HZ h16
  generalize St p = sp at *
  generalize St (jn ms) = sj at *
  generalize St z = sz at *
  generalize hM : ms.length = m at *
  have e1 : ((m + 1 : Nat) : Int) - 1 = (m : Int) := by omega
  have d0 : (((m + 1 : Nat) : Int) == 0) = false := by simp; omega
  generalize hN : m + 1 = n at *
  go_enter Tryz.func95, Tryz.ntmps95
  go_wp2_with fail
  refine (unhide K).mono ?_
  rintro e w1 ⟨x, c, rfl, ho, hb⟩
  have HB := hide hb
  obtain ⟨g, rfl, hc⟩ := HZ.out x c w1 ho
  have hcut : (Instr.slice 103 (.slice (some ⟨g, 0, none⟩) n c) none (some (.int .i64 (m : Int))) none).run Tryz.prog w1 = .ok (.slice (some ⟨g, 0, none⟩) m c) w1 := by
    have := run_cutS_h (some ⟨g, 0, none⟩) n c m (by have := ho.2.1; omega) w1
    rwa [cutAt_zero] at this
  have KJ := hide (KJ.out _ c w1 ho)
  have hg : g < w1.heap.size := (ho.lt rfl).1
  clear K hb ho HZ
  go_wp2_with fail
  refine (unhide KJ).mono ?_
  rintro e w2 ⟨rfl, hb⟩
  have HB := hide (HB.out.trans (hb.mono HB.out.size))
  have hc2 : w2.cell? ⟨g, m, none⟩ = some (.string sz) := (hb.cell (p := ⟨g, m, none⟩) hg).trans hc
  have c1 : (0 : Int) ≤ (m : Int) := by omega
  have c2 : (m : Int) < (n : Int) := by omega
  clear KJ hb hc hcut
  go_wp2_with fail
  go_quiet (fail)
  go_wp2_with fail
  go_ret3
  exact ⟨rfl, HB.out.os, HB.out.tape, HB.out.output, HB.out.size, HB.out.block⟩

end Go.Proofs.YtknmgefpjdfenaaGreat

