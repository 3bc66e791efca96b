/- walk.Split: every text. -/
import Derived.Test.YtknmgefpjdfenaaGreatTrVJoin
import Derived.Test.YtknmgefpjdfenaaGreatTrVSeek
namespace Go.Proofs.YtknmgefpjdfenaaGreat
open Go.RowKit Go.Shelf
set_option linter.unusedVariables false
set_option maxRecDepth 100000

theorem app1S {B : Nat} {w : World} {a : Option Addr} {n c : Nat} {xs : List (List UInt8)} (h : OwnS B w a n c xs) (hB : B ≤ w.heap.size) (x : List UInt8) (hn : n + 1 ≤ 8796093022208) :
    ∃ a' c' w', (∀ ty, (Builtin.append_ #[103, 103] ty #[.slice a n c, .slice (some ⟨w.heap.size, 0, none⟩) 1 1]).run Tryz.prog (w.alloc (.cells #[.string (St x)] 9)) = .ok (.slice a' (n + 1) c') w') ∧ OwnS B w' a' (n + 1) c' (xs ++ [x]) ∧
      (∀ k, k < w.heap.size → (∀ g, a = some ⟨g, 0, none⟩ → k ≠ g) → w'.heap[k]? = w.heap[k]?) ∧ Below B w w' := by
  have hb0 : Below w.heap.size w (w.alloc (.cells #[.string (St x)] 9)) := (Below.refl _ w).alloc (Nat.le_refl _) _
  have h1 := h.below hb0 (Nat.le_refl _)
  have h2 : HasS (w.alloc (.cells #[.string (St x)] 9)) (some ⟨w.heap.size, 0, none⟩) 1 [x] := by
    refine ⟨rfl, fun _ => ⟨w.heap.size, 0, rfl, by simp, fun j hj => ?_⟩⟩
    obtain rfl : j = 0 := by omega
    simp only [World.cell?, World.alloc_heap_new]
    rfl
  obtain ⟨a', c', w', r, o, k, b⟩ := run_appS h1 (by have := hb0.size; omega) 1 h2 hn
  refine ⟨a', c', w', r, o, fun i hi hne => ?_, (hb0.mono hB).trans b⟩
  rw [k i (by have := hb0.size; omega) hne]
  exact hb0.block i hi

def strLen : Value → Nat
  | .string s => s.size
  | _ => 0

/-- The rest that a function of seeker has still to go through. -/
def restLen (g : Nat) (w : World) : Nat := strLen ((w.cell? ⟨g, 0, none⟩).getD (.bool false))

/-- Where Split's loop stands: x the name found last, ds those ahead of it, r the rest. -/
def SpI (w : World) (p : List UInt8) (g : Nat) (a : Option Addr) (k c : Nat) (x : List UInt8) (wr : World) : Prop :=
  ∃ ds r, ds.length = k ∧ OwnS (g + 1) wr a k c ds ∧ wr.heap[g]? = some (bx r) ∧ Below w.heap.size w wr ∧ w.heap.size ≤ g ∧ g < wr.heap.size ∧ ds.length + x.length + r.length ≤ 200 ∧
    nms p = ds ++ (if x = [] then [] else x :: nm r)

theorem SpI.stop {w wr : World} {p : List UInt8} {g k c : Nat} {a : Option Addr} (h : SpI w p g a k c [] wr) : OwnS w.heap.size wr a k c (nms p) ∧ Below w.heap.size w wr ∧ (nms p).length = k := by
  obtain ⟨ds, r, h1, h2, h3, h4, h5, h6, h7, h8⟩ := h
  rw [if_pos rfl, List.append_nil] at h8
  rw [h8]
  exact ⟨h2.base (by omega), h4, h1⟩

theorem SpI.small {w wr : World} {p x : List UInt8} {g k c : Nat} {a : Option Addr} (h : SpI w p g a k c x wr) : k ≤ 200 := by
  obtain ⟨ds, r, h1, h2, h3, h4, h5, h6, h7, h8⟩ := h
  omega

theorem setBox {w : World} {g : Nat} {l r : List UInt8} (h : w.heap[g]? = some (bx l)) (n : Nat) : ((w.drewN n).setCell ⟨g, 0, none⟩ (sv r)).heap[g]? = some (bx r) := by
  have h' : (w.drewN n).heap[g]? = some (.cells #[sv l] 9 (0, 0)) := h
  rw [setCell_eq_setRow _ g 0 _ 9 (0, 0) _ h', setRow_heap _ g _ _ 9 _ h']
  rfl

theorem setOther {w : World} {g k : Nat} {v : Value} (n : Nat) (h : k ≠ g) : ((w.drewN n).setCell ⟨g, 0, none⟩ v).heap[k]? = w.heap[k]? := by
  simp only [World.setCell]
  rw [Array.getElem?_modify, if_neg (fun e => h e.symm)]
  rfl

theorem setSize (w : World) (g n : Nat) (v : Value) : ((w.drewN n).setCell ⟨g, 0, none⟩ v).heap.size = w.heap.size := by
  simp [World.setCell, World.drewN]

theorem setBelow {w0 w : World} {m g n : Nat} {v : Value} (h : Below m w0 w) (hg : m ≤ g) : Below m w0 ((w.drewN n).setCell ⟨g, 0, none⟩ v) :=
  ⟨h.os, h.tape, h.output, by rw [setSize]; exact h.size, fun k hk => by rw [setOther n (by omega)]; exact h.block k hk⟩

theorem SpI.start {w wr : World} {p : List UInt8} (h : Below w.heap.size w wr) (hp : p.length ≤ 200) (n : Nat) :
    SpI w p wr.heap.size none 0 0 (cutN (drop1 p)).1 (((wr.alloc (bx (drop1 p))).drewN n).setCell ⟨wr.heap.size, 0, none⟩ (sv (cutN (drop1 p)).2)) := by
  have hb0 : Below w.heap.size w (wr.alloc (bx (drop1 p))) := h.alloc h.size _
  refine ⟨[], (cutN (drop1 p)).2, rfl, OwnS.nil _ _, setBox (l := drop1 p) (by rw [World.alloc_heap_new]) n, setBelow hb0 h.size, h.size, by rw [setSize]; simp, ?_, ?_⟩
  · have := cutN_len (drop1 p)
    have := drop1_len p
    simp; omega
  · rw [List.nil_append]; exact nm_step _

/-- A round of Split's loop: the name is noted, the next one sought. -/
theorem SpI.next {w wr : World} {p x : List UInt8} {g k c : Nat} {a : Option Addr} (h : SpI w p g a k c x wr) (hx : x ≠ []) :
    ∃ a' c' w1 r, (∀ ty, (Builtin.append_ #[103, 103] ty #[.slice a k c, .slice (some ⟨wr.heap.size, 0, none⟩) 1 1]).run Tryz.prog (wr.alloc (.cells #[.string (St x)] 9)) = .ok (.slice a' (k + 1) c') w1) ∧
      w1.heap[g]? = some (bx r) ∧ r.length ≤ 200 ∧ (∀ n, SpI w p g a' (k + 1) c' (cutN r).1 ((w1.drewN n).setCell ⟨g, 0, none⟩ (sv (cutN r).2)) ∧
      (cutN r).1.length + restLen g ((w1.drewN n).setCell ⟨g, 0, none⟩ (sv (cutN r).2)) < x.length + restLen g wr) := by
  obtain ⟨ds, r, h1, h2, h3, h4, h5, h6, h7, h8⟩ := h
  obtain ⟨a', c', w1, r1, o1, k1, b1⟩ := app1S h2 (by omega) x (by omega)
  have hg1 : w1.heap[g]? = some (bx r) := by
    rw [k1 g h6 (fun g' e => by have := (h2.lt e).2; omega)]
    exact h3
  have hbw : Below w.heap.size w w1 := h4.trans (b1.mono (by omega))
  have hx1 : 1 ≤ x.length := by
    cases x with
    | nil => exact absurd rfl hx
    | cons _ _ => simp
  have hcl := cutN_len r
  refine ⟨a', c', w1, r, r1, hg1, by omega, fun n => ⟨⟨ds ++ [x], (cutN r).2, by simp [h1], ?_, setBox hg1 n, setBelow hbw h5, h5, by rw [setSize]; exact Nat.lt_of_lt_of_le h6 b1.size, ?_, ?_⟩, ?_⟩⟩
  · exact o1.kept (fun g' e => setOther n (by have := (o1.lt e).2; omega))
  · simp; omega
  · rw [h8, if_neg hx, List.append_assoc, List.singleton_append, ← nm_step]
  · have e1 : restLen g ((w1.drewN n).setCell ⟨g, 0, none⟩ (sv (cutN r).2)) = (cutN r).2.length := by
      unfold restLen
      rw [cell_box (setBox hg1 n)]
      exact St_size _
    have e2 : restLen g wr = r.length := by
      unfold restLen
      rw [cell_box h3]
      exact St_size _
    rw [e1, e2]
    omega

set_option maxHeartbeats 4000000 in
theorem split_any (p : List UInt8) (w : World) (hp : p.length ≤ 9223372036854775807) :
    Calls Tryz.prog 93 #[.string (St p)] w fun e w' => ∃ a c, e = .returned (.tuple #[.slice a ((spl p).getD []).length c, .int .i64 (splE p)]) ∧ OwnS w.heap.size w' a ((spl p).getD []).length c ((spl p).getD []) ∧ Below w.heap.size w w' := by
  have hs := St_size p
  by_cases h200 : p.length ≤ 200
  · have KC := hide (clone_any p w (by omega))
    have KS : Hid (∀ u, Calls Tryz.prog 113 #[.string (St p)] u fun e w' => e = .returned (.func (.func 130) #[] #[.pointer (some ⟨u.heap.size, 0, none⟩)]) ∧ w' = u.alloc (bx (drop1 p))) := fun u => seeker_any p u
    have d1 : decide (((St p).size : Int) > 200) = false := by rw [hs]; simp; omega
    have hd := drop1_len p
    have HP := hide h200
    generalize hS : St p = s at *
    go_enter Tryz.func93, Tryz.ntmps93
    go_wp2_with fail
    refine (unhide KC).mono ?_
    rintro e w1 ⟨rfl, hb⟩
    have HB := hide hb
    clear KC hb
    go_wp2_with fail
    refine ((unhide KS) _).mono ?_
    rintro e w2 ⟨rfl, rfl⟩
    clear KS
    have KN := hide (next_any (drop1 p) w1.heap.size (w1.alloc (bx (drop1 p))) (by omega) (by rw [World.alloc_heap_new]))
    have HSt : Hid (∀ n, SpI w p w1.heap.size none 0 0 (cutN (drop1 p)).1 (((w1.alloc (bx (drop1 p))).drewN n).setCell ⟨w1.heap.size, 0, none⟩ (sv (cutN (drop1 p)).2))) := fun n => SpI.start HB.out h200 n
    generalize w1.alloc (bx (drop1 p)) = w2 at *
    generalize w1.heap.size = g at *
    go_wp2_with fail
    refine (unhide KN).mono ?_
    rintro e w3 ⟨rfl, n, rfl⟩
    have HSt := hide (HSt.out n)
    clear KN HB
    generalize (w2.drewN n).setCell ⟨g, 0, none⟩ (sv (cutN (drop1 p)).2) = w3 at *
    generalize (cutN (drop1 p)).1 = x0 at *
    go_wp2_with fail
    go_loopw [5, 6] (fun l v wr => ∃ a k c x, l = .slice a k c ∧ v = .string (St x) ∧ Hid (SpI w p g a k c x wr)) (fun _ v wr => strLen v + restLen g wr)
    case atStart => exact ⟨none, 0, 0, x0, rfl, rfl, HSt⟩
    case round =>
      obtain ⟨a, k, c, x, rfl, rfl, hI⟩ := hrel
      by_cases hx : x = []
      · subst hx
        obtain ⟨hO, hB, hk⟩ := hI.out.stop
        have KJ := join_any a k c (nms p) wr hO.has hO.2.1 (by have := hI.out.small; omega) (fun j => nms_get p (by omega) j)
        have HR : Hid (OwnS w.heap.size wr a k c (nms p) ∧ Below w.heap.size w wr ∧ (nms p).length = k) := ⟨hO, hB, hk⟩
        have hsp : Hid (spl p = if okN (nms p) = true ∧ jn (nms p) = p then some (nms p) else none) := rfl
        have hstS := hide (St_toList p)
        rw [hS] at hstS
        have d0 : (St []).toList.isEmpty = true := by rw [St_toList]; rfl
        clear hO hB hk hI HSt
        generalize hS0 : St [] = s0 at *
        by_cases ok : okN (nms p) = true
        · by_cases hj : jn (nms p) = p
          · have hsp : Hid (spl p = some (nms p)) := if_pos ⟨ok, hj⟩
            unfold jnV jnE at KJ
            rw [if_pos ok, if_pos ok, hj, hS] at KJ
            have KJ := hide KJ
            clear ok hj
            go_wp2_with fail
            refine (unhide KJ).mono ?_
            rintro e w4 ⟨rfl, hb⟩
            have HB := hide hb
            clear KJ hb
            go_wp2_with fail
            go_ret2
            obtain ⟨h1, h2, h3⟩ := HR.out
            refine ⟨a, c, ?_, ?_, h2.trans (HB.out.mono h2.size)⟩
            · unfold splE; rw [hsp.out]; exact congrArg (fun m => Ending.returned (.tuple #[.slice a m c, .int .i64 0])) h3.symm
            · rw [hsp.out]; show OwnS _ _ _ (nms p).length _ (nms p); rw [h3]; exact h1.below HB.out (Nat.le_refl _)
          · have hsp : Hid (spl p = none) := if_neg (fun h => hj h.2)
            unfold jnV jnE at KJ
            rw [if_pos ok, if_pos ok] at KJ
            have d4 : ((St (jn (nms p))).toList == s.toList) = false := by rw [St_toList, hstS.out]; simpa using hj
            have KJ := hide KJ
            clear ok hj
            generalize St (jn (nms p)) = sj at *
            go_wp2_with fail
            refine (unhide KJ).mono ?_
            rintro e w4 ⟨rfl, hb⟩
            have HB := hide hb
            clear KJ hb
            go_wp2_with fail
            go_ret2
            obtain ⟨h1, h2, h3⟩ := HR.out
            refine ⟨none, 0, ?_, ?_, h2.trans (HB.out.mono h2.size)⟩
            · unfold splE; rw [hsp.out]; rfl
            · rw [hsp.out]; exact OwnS.nil _ _
        · have hsp : Hid (spl p = none) := if_neg (fun h => ok h.1)
          unfold jnV jnE at KJ
          rw [if_neg ok, if_neg ok, hS0] at KJ
          have KJ := hide KJ
          clear ok
          go_wp2_with fail
          refine (unhide KJ).mono ?_
          rintro e w4 ⟨rfl, hb⟩
          have HB := hide hb
          clear KJ hb
          go_wp2_with fail
          go_ret2
          obtain ⟨h1, h2, h3⟩ := HR.out
          refine ⟨none, 0, ?_, ?_, h2.trans (HB.out.mono h2.size)⟩
          · unfold splE; rw [hsp.out]; rfl
          · rw [hsp.out]; exact OwnS.nil _ _
      · obtain ⟨a', c', w1, r, R1, hg, hr, HN⟩ := hI.out.next hx
        have KN := hide (next_any r g w1 (by omega) hg)
        have HN := hide HN
        have R1 := hide R1
        have d3 : ((St x).toList == []) = false := by rw [St_toList]; simpa using hx
        have HL := hide (St_size x)
        clear hI hg hx HSt
        generalize hsx : St x = sx at *
        go_wp2_with (at_builtin; refine wpList_append_run 103 rfl _ _ rfl _ _ _ rfl rfl (unhide R1) ?_; clear R1)
        refine (unhide KN).mono ?_
        rintro e w4 ⟨rfl, n, rfl⟩
        obtain ⟨hN1, hN2⟩ := HN.out n
        have HN1 := hide hN1
        have HN2 := hide hN2
        clear KN HN hN1 hN2
        generalize (w1.drewN n).setCell ⟨g, 0, none⟩ (sv (cutN r).2) = w4 at *
        have HL2 := hide (St_size (cutN r).1)
        generalize (cutN r).1 = x' at *
        go_wp2_with fail
        go_roundw
        case rel => exact ⟨a', k + 1, c', x', rfl, rfl, HN1⟩
        case measure =>
          have h1 := HN2.out
          have h2 := HL.out
          have h3 := HL2.out
          show (St x').size + restLen g w4 < sx.size + restLen g wr
          rw [h2, h3]
          exact h1
  · have hn : spl p = none := by
      cases h : spl p with
      | none => rfl
      | some ns => exact absurd (spl_len h) h200
    unfold splE
    rw [hn]
    show Calls _ _ _ _ fun e w' => ∃ a c, e = .returned (.tuple #[.slice a 0 c, .int .i64 16]) ∧ OwnS w.heap.size w' a 0 c [] ∧ _
    have d1 : decide (((St p).size : Int) > 200) = true := by rw [hs]; simp; omega
    have hp' : (St p).size ≤ 9223372036854775807 := by rw [hs]; exact hp
    generalize St p = s at *
    clear hs hn h200 hp
    go_enter Tryz.func93, Tryz.ntmps93
    go_wp2_with fail
    go_ret2
    exact ⟨none, 0, rfl, OwnS.nil _ _, Below.refl _ _⟩

end Go.Proofs.YtknmgefpjdfenaaGreat
