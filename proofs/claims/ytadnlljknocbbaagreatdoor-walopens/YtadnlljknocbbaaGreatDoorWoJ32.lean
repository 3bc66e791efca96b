/- Joined: CUnD, CRDescW, CRUnDsW. -/
import Derived.Test.YtadnlljknocbbaaGreatDoorWoCTakeD
import Derived.Test.YtadnlljknocbbaaGreatDoorWoJ30
import Derived.Test.YtadnlljknocbbaaGreatDoorWoJ24
import Derived.BigQuiet
import Derived.OwnWalk
import Derived.Test.YtadnlljknocbbaaGreatDoorWoJ4
import Derived.Test.YtadnlljknocbbaaGreatDoorWoJ31
/- Contracts of codec.read, of descriptors, and of codec.Undesc. -/
namespace Go.Proofs.YtadnlljknocbbaaGreatDoor
open Go.RowKit Go.Shelf
set_option linter.unusedVariables false
set_option maxRecDepth 100000

set_option maxRecDepth 100000 in
set_option maxHeartbeats 8000000 in
theorem readS_err (q : Int) (N g1 : Nat) (zs : List Int) (a : Option Addr) (len cap : Nat) (qe : Int) (w : World) (hq : (qe != 0) = true) (HT : Hid (∀ u, Below w.heap.size w u → Calls Tryz.prog 146 #[.slice a len cap] u fun e w' => ∃ gr, e = .returned (.agg #[.int .i64 q, .slice (some ⟨gr, 0, none⟩) N N]) ∧ u.heap.size ≤ gr ∧ Hid (Bl w' gr (rowK zs N N) 3) ∧ Below u.heap.size u w')) (HW : Hid (∀ u gr, Below w.heap.size w u → Bl u gr (rowK zs N N) 3 → Calls Tryz.prog 147 #[.agg #[.int .i64 q, .slice (some ⟨gr, 0, none⟩) N N], .pointer (some ⟨g1, 0, none⟩)] u fun e w' => e = .returned (.tuple #[.slice none 0 0, .int .i64 qe]) ∧ Below u.heap.size u w')) :
    Calls Tryz.prog 145 #[.slice a len cap, .func (.func 146) #[] #[], .func (.func 147) #[] #[.pointer (some ⟨g1, 0, none⟩)]] w fun e w' => e = .returned (.tuple #[.agg #[.int .i64 0, .slice none 0 0], .int .i64 4]) ∧ Below w.heap.size w w' := by
  have hb0 : Below w.heap.size w (w.alloc (.cells #[.int .i64 0, .slice none 0 0] 161)) := (Below.refl _ w).alloc (Nat.le_refl _) _
  have HZ := hide (Bl.new w #[.int .i64 0, .slice none 0 0] 161)
  have HB := hide hb0
  clear hb0
  go_enter Tryz.func145, Tryz.ntmps145
  go_wp2_with fail
  go_at_call 146
  refine (unhide HT _ HB.out).mono ?_
  rintro e w1 ⟨gr, rfl, hgr, hR, hb⟩
  have HG : Hid (w.heap.size < gr) := Nat.lt_of_lt_of_le HZ.out.lt hgr
  replace HZ := hide ((HZ.out.call hb).alloc (.cells #[.int .i64 q, .slice (some ⟨gr, 0, none⟩) N N] 161))
  replace HB := hide ((bchain HB.out hb (Nat.le_refl _)).alloc (bchain HB.out hb (Nat.le_refl _)).size (.cells #[.int .i64 q, .slice (some ⟨gr, 0, none⟩) N N] 161))
  replace hR := hide (hR.out.alloc (.cells #[.int .i64 q, .slice (some ⟨gr, 0, none⟩) N N] 161))
  have HV := hide (Bl.new w1 #[.int .i64 q, .slice (some ⟨gr, 0, none⟩) N N] 161)
  clear hb HT hgr
  go_wp2_with fail
  go_at_call 147
  refine (unhide HW _ _ HB.out hR.out).mono ?_
  rintro e w2 ⟨rfl, hb⟩
  replace HZ := hide ((HZ.out.call hb).alloc (.cells #[.int .i64 0, .slice none 0 0] 161))
  replace HB := hide ((bchain HB.out hb (Nat.le_refl _)).alloc (bchain HB.out hb (Nat.le_refl _)).size (.cells #[.int .i64 0, .slice none 0 0] 161))
  clear hb HW HV hR
  have z0 := HZ.out.cell 0 _ rfl
  have z1 := HZ.out.cell 1 _ rfl
  have hz := HZ.out.free
  go_wp2_with fail
  have hW : Below w.heap.size w (setAll (w2.alloc (.cells #[.int .i64 0, .slice none 0 0] 161)) w.heap.size 0 [.int .i64 0, .slice none 0 0]) := below_setAll (Nat.le_refl _) _ _ _ _ HB.out
  have hA : Bl (setAll (w2.alloc (.cells #[.int .i64 0, .slice none 0 0] 161)) w.heap.size 0 [.int .i64 0, .slice none 0 0]) w.heap.size #[.int .i64 0, .slice none 0 0] 161 := setAll_whole [.int .i64 0, .slice none 0 0] _ _ HZ.out rfl
  change bodyPost _ _ _ _ _ (setAll (w2.alloc (.cells #[.int .i64 0, .slice none 0 0] 161)) w.heap.size 0 [.int .i64 0, .slice none 0 0])
  generalize setAll (w2.alloc (.cells #[.int .i64 0, .slice none 0 0] 161)) w.heap.size 0 [.int .i64 0, .slice none 0 0] = wf at *
  refine bodyPost_ret (v := .tuple #[.agg #[.int .i64 0, .slice none 0 0], .int .i64 4]) ?_ rfl ⟨rfl, hW⟩
  simp [results, Tryz.results145, go_sem, hA.cell 0 _ rfl, hA.cell 1 _ rfl]

set_option maxRecDepth 100000 in
set_option maxHeartbeats 8000000 in
theorem readS_other (q : Int) (N g1 : Nat) (zs : List Int) (a : Option Addr) (len cap : Nat) (w : World) (xs : List Int) (hh : Has w a len zs) (hz0 : ∀ z ∈ zs, 0 ≤ z ∧ z ≤ 255) (hx : ∀ z ∈ xs, 0 ≤ z ∧ z ≤ 255) (he : decide (xs = zs) = false) (HT : Hid (∀ u, Below w.heap.size w u → Calls Tryz.prog 146 #[.slice a len cap] u fun e w' => ∃ gr, e = .returned (.agg #[.int .i64 q, .slice (some ⟨gr, 0, none⟩) N N]) ∧ u.heap.size ≤ gr ∧ Hid (Bl w' gr (rowK zs N N) 3) ∧ Below u.heap.size u w')) (HW : Hid (∀ u gr, Below w.heap.size w u → Bl u gr (rowK zs N N) 3 → Calls Tryz.prog 147 #[.agg #[.int .i64 q, .slice (some ⟨gr, 0, none⟩) N N], .pointer (some ⟨g1, 0, none⟩)] u fun e w' => ∃ a' n' c', e = .returned (.tuple #[.slice a' n' c', .int .i64 0]) ∧ Hid (Has w' a' n' xs) ∧ Below u.heap.size u w')) :
    Calls Tryz.prog 145 #[.slice a len cap, .func (.func 146) #[] #[], .func (.func 147) #[] #[.pointer (some ⟨g1, 0, none⟩)]] w fun e w' => e = .returned (.tuple #[.agg #[.int .i64 0, .slice none 0 0], .int .i64 4]) ∧ Below w.heap.size w w' := by
  have HH := hide hh
  clear hh
  have hb0 : Below w.heap.size w (w.alloc (.cells #[.int .i64 0, .slice none 0 0] 161)) := (Below.refl _ w).alloc (Nat.le_refl _) _
  have HZ := hide (Bl.new w #[.int .i64 0, .slice none 0 0] 161)
  have HB := hide hb0
  clear hb0
  go_enter Tryz.func145, Tryz.ntmps145
  go_wp2_with fail
  go_at_call 146
  refine (unhide HT _ HB.out).mono ?_
  rintro e w1 ⟨gr, rfl, hgr, hR, hb⟩
  have HG : Hid (w.heap.size < gr) := Nat.lt_of_lt_of_le HZ.out.lt hgr
  replace HZ := hide ((HZ.out.call hb).alloc (.cells #[.int .i64 q, .slice (some ⟨gr, 0, none⟩) N N] 161))
  replace HB := hide ((bchain HB.out hb (Nat.le_refl _)).alloc (bchain HB.out hb (Nat.le_refl _)).size (.cells #[.int .i64 q, .slice (some ⟨gr, 0, none⟩) N N] 161))
  replace hR := hide (hR.out.alloc (.cells #[.int .i64 q, .slice (some ⟨gr, 0, none⟩) N N] 161))
  have HV := hide (Bl.new w1 #[.int .i64 q, .slice (some ⟨gr, 0, none⟩) N N] 161)
  clear hb HT hgr
  go_wp2_with fail
  go_at_call 147
  refine (unhide HW _ _ HB.out hR.out).mono ?_
  rintro e w2 ⟨a', n', c', rfl, hx', hb⟩
  replace HZ := hide (HZ.out.call hb)
  replace HB := hide (bchain HB.out hb (Nat.le_refl _))
  replace HV := hide (HV.out.call hb)
  replace hR := hide (hR.out.call hb)
  have KE : Hid (Calls Tryz.prog 143 #[.slice a' n' c', .slice a len cap] w2 fun e w' => e = .returned (.bool false) ∧ w2 = w') := by
    have := equal_any a' a n' c' len cap xs zs w2 hx'.out ((HH.out).later HB.out) hx hz0
    rwa [he] at this
  clear hb HW hx'
  go_wp2_with fail
  go_at_call 143
  refine (unhide KE).mono ?_
  rintro e w' ⟨rfl, rfl⟩
  clear KE
  replace HZ := hide (HZ.out.alloc (.cells #[.int .i64 0, .slice none 0 0] 161))
  replace HB := hide (HB.out.alloc HB.out.size (.cells #[.int .i64 0, .slice none 0 0] 161))
  clear HV HH hz0 hx he hR
  have z0 := HZ.out.cell 0 _ rfl
  have z1 := HZ.out.cell 1 _ rfl
  have hz := HZ.out.free
  go_wp2_with fail
  have hW : Below w.heap.size w (setAll (w2.alloc (.cells #[.int .i64 0, .slice none 0 0] 161)) w.heap.size 0 [.int .i64 0, .slice none 0 0]) := below_setAll (Nat.le_refl _) _ _ _ _ HB.out
  have hA : Bl (setAll (w2.alloc (.cells #[.int .i64 0, .slice none 0 0] 161)) w.heap.size 0 [.int .i64 0, .slice none 0 0]) w.heap.size #[.int .i64 0, .slice none 0 0] 161 := setAll_whole [.int .i64 0, .slice none 0 0] _ _ HZ.out rfl
  change bodyPost _ _ _ _ _ (setAll (w2.alloc (.cells #[.int .i64 0, .slice none 0 0] 161)) w.heap.size 0 [.int .i64 0, .slice none 0 0])
  generalize setAll (w2.alloc (.cells #[.int .i64 0, .slice none 0 0] 161)) w.heap.size 0 [.int .i64 0, .slice none 0 0] = wf at *
  refine bodyPost_ret (v := .tuple #[.agg #[.int .i64 0, .slice none 0 0], .int .i64 4]) ?_ rfl ⟨rfl, hW⟩
  simp [results, Tryz.results145, go_sem, hA.cell 0 _ rfl, hA.cell 1 _ rfl]

set_option maxRecDepth 100000 in
set_option maxHeartbeats 8000000 in
theorem readS_same (q : Int) (N g1 : Nat) (zs : List Int) (a : Option Addr) (len cap : Nat) (w : World) (xs : List Int) (hh : Has w a len zs) (hz0 : ∀ z ∈ zs, 0 ≤ z ∧ z ≤ 255) (hx : ∀ z ∈ xs, 0 ≤ z ∧ z ≤ 255) (he : decide (xs = zs) = true) (HT : Hid (∀ u, Below w.heap.size w u → Calls Tryz.prog 146 #[.slice a len cap] u fun e w' => ∃ gr, e = .returned (.agg #[.int .i64 q, .slice (some ⟨gr, 0, none⟩) N N]) ∧ u.heap.size ≤ gr ∧ Hid (Bl w' gr (rowK zs N N) 3) ∧ Below u.heap.size u w')) (HW : Hid (∀ u gr, Below w.heap.size w u → Bl u gr (rowK zs N N) 3 → Calls Tryz.prog 147 #[.agg #[.int .i64 q, .slice (some ⟨gr, 0, none⟩) N N], .pointer (some ⟨g1, 0, none⟩)] u fun e w' => ∃ a' n' c', e = .returned (.tuple #[.slice a' n' c', .int .i64 0]) ∧ Hid (Has w' a' n' xs) ∧ Below u.heap.size u w')) :
    Calls Tryz.prog 145 #[.slice a len cap, .func (.func 146) #[] #[], .func (.func 147) #[] #[.pointer (some ⟨g1, 0, none⟩)]] w fun e w' => ∃ gr, e = .returned (.tuple #[.agg #[.int .i64 q, .slice (some ⟨gr, 0, none⟩) N N], .int .i64 0]) ∧ w.heap.size < gr ∧ Hid (Bl w' gr (rowK zs N N) 3) ∧ Below w.heap.size w w' := by
  have HH := hide hh
  clear hh
  have hb0 : Below w.heap.size w (w.alloc (.cells #[.int .i64 0, .slice none 0 0] 161)) := (Below.refl _ w).alloc (Nat.le_refl _) _
  have HZ := hide (Bl.new w #[.int .i64 0, .slice none 0 0] 161)
  have HB := hide hb0
  clear hb0
  go_enter Tryz.func145, Tryz.ntmps145
  go_wp2_with fail
  go_at_call 146
  refine (unhide HT _ HB.out).mono ?_
  rintro e w1 ⟨gr, rfl, hgr, hR, hb⟩
  have HG : Hid (w.heap.size < gr) := Nat.lt_of_lt_of_le HZ.out.lt hgr
  replace HZ := hide ((HZ.out.call hb).alloc (.cells #[.int .i64 q, .slice (some ⟨gr, 0, none⟩) N N] 161))
  replace HB := hide ((bchain HB.out hb (Nat.le_refl _)).alloc (bchain HB.out hb (Nat.le_refl _)).size (.cells #[.int .i64 q, .slice (some ⟨gr, 0, none⟩) N N] 161))
  replace hR := hide (hR.out.alloc (.cells #[.int .i64 q, .slice (some ⟨gr, 0, none⟩) N N] 161))
  have HV := hide (Bl.new w1 #[.int .i64 q, .slice (some ⟨gr, 0, none⟩) N N] 161)
  clear hb HT hgr
  go_wp2_with fail
  go_at_call 147
  refine (unhide HW _ _ HB.out hR.out).mono ?_
  rintro e w2 ⟨a', n', c', rfl, hx', hb⟩
  replace HZ := hide (HZ.out.call hb)
  replace HB := hide (bchain HB.out hb (Nat.le_refl _))
  replace HV := hide (HV.out.call hb)
  replace hR := hide (hR.out.call hb)
  have KE : Hid (Calls Tryz.prog 143 #[.slice a' n' c', .slice a len cap] w2 fun e w' => e = .returned (.bool true) ∧ w2 = w') := by
    have := equal_any a' a n' c' len cap xs zs w2 hx'.out ((HH.out).later HB.out) hx hz0
    rwa [he] at this
  clear hb HW hx'
  go_wp2_with fail
  go_at_call 143
  refine (unhide KE).mono ?_
  rintro e w' ⟨rfl, rfl⟩
  clear KE
  clear HH hz0 hx he
  have z0 := HZ.out.cell 0 _ rfl
  have z1 := HZ.out.cell 1 _ rfl
  have hz := HZ.out.free
  have v0 := HV.out.cell 0 _ rfl
  have v1 := HV.out.cell 1 _ rfl
  go_wp2_with fail
  have hW : Below w.heap.size w (setAll w2 w.heap.size 0 [.int .i64 q, .slice (some ⟨gr, 0, none⟩) N N]) := below_setAll (Nat.le_refl _) _ _ _ _ HB.out
  have hA : Bl (setAll w2 w.heap.size 0 [.int .i64 q, .slice (some ⟨gr, 0, none⟩) N N]) w.heap.size #[.int .i64 q, .slice (some ⟨gr, 0, none⟩) N N] 161 := setAll_whole [.int .i64 q, .slice (some ⟨gr, 0, none⟩) N N] _ _ HZ.out rfl
  have hRow : Hid (Bl (setAll w2 w.heap.size 0 [.int .i64 q, .slice (some ⟨gr, 0, none⟩) N N]) gr (rowK zs N N) 3) := (hR.out.other _ _ (Nat.ne_of_gt HG.out)).other _ _ (Nat.ne_of_gt HG.out)
  change bodyPost _ _ _ _ _ (setAll w2 w.heap.size 0 [.int .i64 q, .slice (some ⟨gr, 0, none⟩) N N])
  generalize setAll w2 w.heap.size 0 [.int .i64 q, .slice (some ⟨gr, 0, none⟩) N N] = wf at *
  refine bodyPost_ret (v := .tuple #[.agg #[.int .i64 q, .slice (some ⟨gr, 0, none⟩) N N], .int .i64 0]) ?_ rfl ⟨gr, rfl, HG.out, hRow, hW⟩
  simp [results, Tryz.results145, go_sem, hA.cell 0 _ rfl, hA.cell 1 _ rfl]

set_option maxRecDepth 100000 in
set_option maxHeartbeats 4000000 in
theorem undesc1 (q : Int) (N gr g1 : Nat) (a : Option Addr) (len cap : Nat) (w : World) (hc : w.cell? ⟨g1, 0, none⟩ = some (.slice a len cap)) (qe : Int) (S : Value → World → Prop)
    (K : Hid (∀ u, Below w.heap.size w u → Calls Tryz.prog 141 #[.int .i64 q, .slice (some ⟨gr, 0, none⟩) N N, .int .i64 (len : Int)] u fun e w' => ∃ a' n' c', e = .returned (.tuple #[.slice a' n' c', .int .i64 qe]) ∧ Hid (S (.slice a' n' c') w') ∧ Below u.heap.size u w')) :
    Calls Tryz.prog 147 #[.agg #[.int .i64 q, .slice (some ⟨gr, 0, none⟩) N N], .pointer (some ⟨g1, 0, none⟩)] w fun e w' => ∃ a' n' c', e = .returned (.tuple #[.slice a' n' c', .int .i64 qe]) ∧ Hid (S (.slice a' n' c') w') ∧ Below w.heap.size w w' := by
  have hb0 : Below w.heap.size w (w.alloc (.cells #[.int .i64 q, .slice (some ⟨gr, 0, none⟩) N N] 161)) := (Below.refl _ w).alloc (Nat.le_refl _) _
  have hc1 : (w.alloc (.cells #[.int .i64 q, .slice (some ⟨gr, 0, none⟩) N N] 161)).cell? ⟨g1, 0, none⟩ = some (.slice a len cap) := (hb0.cell (cell_block_lt hc)).trans hc
  have K' := hide (K.out _ hb0)
  have HB := hide hb0
  clear hc K hb0
  go_enter Tryz.func147, Tryz.ntmps147
  go_wp2_with fail
  go_at_call 141
  refine (unhide K').mono ?_
  rintro e w1 ⟨a', n', c', rfl, hS, hb⟩
  replace HB := hide (bchain HB.out hb (Nat.le_refl _))
  clear hb K' hc1
  go_wp2_with fail
  go_ret2
  exact ⟨a', n', c', rfl, hS, HB.out⟩

set_option maxRecDepth 100000 in
set_option maxHeartbeats 4000000 in
theorem undesc_no  (a : Option Addr) (len cap : Nat) (w : World) (K : Hid (∀ u, Below w.heap.size w u → u.cell? ⟨w.heap.size, 0, none⟩ = some (.slice a len cap) → Calls Tryz.prog 145 #[.slice a len cap, .func (.func 146) #[] #[], .func (.func 147) #[] #[.pointer (some ⟨w.heap.size, 0, none⟩)]] u fun e w' => e = .returned (.tuple #[.agg #[.int .i64 0, .slice none 0 0], .int .i64 4]) ∧ Below u.heap.size u w')) :
    Calls Tryz.prog 128 #[.slice a len cap] w fun e w' => e = .returned (.tuple #[.int .i64 0, .slice none 0 0, .int .i64 4]) ∧ Below w.heap.size w w' := by
  have hb1 : Below w.heap.size w (w.alloc (.cells #[.slice a len cap] 50)) := (Below.refl _ w).alloc (Nat.le_refl _) _
  have hc : (w.alloc (.cells #[.slice a len cap] 50)).cell? ⟨w.heap.size, 0, none⟩ = some (.slice a len cap) := (Bl.new w #[.slice a len cap] 50).cell 0 _ rfl
  have K' := hide (K.out _ hb1 hc)
  have HB := hide hb1
  clear K hb1 hc
  go_enter Tryz.func128, Tryz.ntmps128
  go_wp2_with fail
  go_at_call 145
  refine (unhide K').mono ?_
  rintro e w1 ⟨rfl, hb⟩
  replace HB := hide ((bchain HB.out hb (Nat.le_refl _)).alloc (bchain HB.out hb (Nat.le_refl _)).size (.cells #[.int .i64 0, .slice none 0 0] 161))
  have HV := hide (Bl.new w1 #[.int .i64 0, .slice none 0 0] 161)
  skip
  clear hb K'
  go_upto_region 2 with fail
  change Code.wp _ _ _ _ (w1.alloc (.cells #[.int .i64 0, .slice none 0 0] 161))
  generalize w1.alloc (.cells #[.int .i64 0, .slice none 0 0] 161) = W at *
  generalize w1.heap.size = g2 at *
  have v0 := HV.out.drew.cell 0 _ rfl
  have v1 := HV.out.drew.cell 1 _ rfl
  have u0 := HV.out.cell 0 _ rfl
  have u1 := HV.out.cell 1 _ rfl
  go_quiet (fail)
  go_wp2_with fail
  go_ret3
  exact ⟨rfl, below_drewN HB.out _⟩

set_option maxRecDepth 100000 in
set_option maxHeartbeats 4000000 in
theorem undesc_yes (q : Int) (N : Nat) (zs : List Int) (a : Option Addr) (len cap : Nat) (w : World) (K : Hid (∀ u, Below w.heap.size w u → u.cell? ⟨w.heap.size, 0, none⟩ = some (.slice a len cap) → Calls Tryz.prog 145 #[.slice a len cap, .func (.func 146) #[] #[], .func (.func 147) #[] #[.pointer (some ⟨w.heap.size, 0, none⟩)]] u fun e w' => ∃ gr, e = .returned (.tuple #[.agg #[.int .i64 q, .slice (some ⟨gr, 0, none⟩) N N], .int .i64 0]) ∧ u.heap.size < gr ∧ Hid (Bl w' gr (rowK zs N N) 3) ∧ Below u.heap.size u w')) :
    Calls Tryz.prog 128 #[.slice a len cap] w fun e w' => ∃ gr, e = .returned (.tuple #[.int .i64 q, .slice (some ⟨gr, 0, none⟩) N N, .int .i64 0]) ∧ w.heap.size ≤ gr ∧ Hid (Bl w' gr (rowK zs N N) 3) ∧ Below w.heap.size w w' := by
  have hb1 : Below w.heap.size w (w.alloc (.cells #[.slice a len cap] 50)) := (Below.refl _ w).alloc (Nat.le_refl _) _
  have hc : (w.alloc (.cells #[.slice a len cap] 50)).cell? ⟨w.heap.size, 0, none⟩ = some (.slice a len cap) := (Bl.new w #[.slice a len cap] 50).cell 0 _ rfl
  have K' := hide (K.out _ hb1 hc)
  have HB := hide hb1
  clear K hb1 hc
  go_enter Tryz.func128, Tryz.ntmps128
  go_wp2_with fail
  go_at_call 145
  refine (unhide K').mono ?_
  rintro e w1 ⟨gr, rfl, hgr, hR, hb⟩
  replace HB := hide ((bchain HB.out hb (Nat.le_refl _)).alloc (bchain HB.out hb (Nat.le_refl _)).size (.cells #[.int .i64 q, .slice (some ⟨gr, 0, none⟩) N N] 161))
  have HV := hide (Bl.new w1 #[.int .i64 q, .slice (some ⟨gr, 0, none⟩) N N] 161)
  have HG : Hid (w.heap.size ≤ gr) := Nat.le_of_lt (Nat.lt_of_le_of_lt (Nat.le_of_lt (show w.heap.size < (w.alloc (.cells #[.slice a len cap] 50)).heap.size by simp)) hgr)
  replace hR := hide (hR.out.alloc (.cells #[.int .i64 q, .slice (some ⟨gr, 0, none⟩) N N] 161))
  clear hb K'
  go_upto_region 2 with fail
  change Code.wp _ _ _ _ (w1.alloc (.cells #[.int .i64 q, .slice (some ⟨gr, 0, none⟩) N N] 161))
  generalize w1.alloc (.cells #[.int .i64 q, .slice (some ⟨gr, 0, none⟩) N N] 161) = W at *
  generalize w1.heap.size = g2 at *
  have v0 := HV.out.drew.cell 0 _ rfl
  have v1 := HV.out.drew.cell 1 _ rfl
  have u0 := HV.out.cell 0 _ rfl
  have u1 := HV.out.cell 1 _ rfl
  go_quiet (fail)
  go_wp2_with fail
  go_ret3
  exact ⟨gr, rfl, HG.out, hR.out, below_drewN HB.out _⟩

theorem getVal_bd {zs : List Int} (hz : ∀ z ∈ zs, 0 ≤ z ∧ z ≤ 255) (at' : Int) : 0 ≤ getVal zs at' 2 ∧ getVal zs at' 2 < 65536 := by
  unfold getVal
  split
  · have hb := num_bound ((zs.drop at'.toNat).take (2 : Int).toNat) (fun z h => hz z (List.mem_of_mem_drop (List.mem_of_mem_take h)))
    refine ⟨hb.1, Int.lt_of_lt_of_le hb.2 ?_⟩
    have hle : ((zs.drop at'.toNat).take (2 : Int).toNat).length ≤ 2 := by rw [List.length_take]; simp; omega
    generalize ((zs.drop at'.toNat).take (2 : Int).toNat).length = k at hle
    have : k = 0 ∨ k = 1 ∨ k = 2 := by omega
    rcases this with rfl | rfl | rfl <;> decide
  · omega

/-- How many numbers of a list are taken from bytes. -/
def dN (zs : List Int) : Nat := if (zs.length : Int) / 2 < getVal zs 8 2 then zs.length / 2 else (getVal zs 8 2).toNat

/-- Are these bytes a descriptor? -/
def descIs (zs : List Int) : Prop := descE (zs.length : Int) (getVal zs 4 4) (takeL zs (dN zs)) = 0 ∧ descB zs.length (getVal zs 4 4) (takeL zs (dN zs)) = zs

theorem dN_le {zs : List Int} (hz : ∀ z ∈ zs, 0 ≤ z ∧ z ≤ 255) : dN zs ≤ 65535 ∧ 0 ≤ getVal zs 8 2 ∧ getVal zs 8 2 < 65536 := by
  have h := getVal_bd hz 8
  unfold dN
  split <;> omega

theorem takeDesc_any (a : Option Addr) (len cap : Nat) (zs : List Int) (w : World) (hr : Row w.heap.size w a len cap zs) :
    Calls Tryz.prog 146 #[.slice a len cap] w fun e w' => ∃ gr, e = .returned (.agg #[.int .i64 (getVal zs 4 4), .slice (some ⟨gr, 0, none⟩) (dN zs) (dN zs)]) ∧ w.heap.size ≤ gr ∧ Hid (Bl w' gr (rowK zs (dN zs) (dN zs)) 3) ∧ Below w.heap.size w w' := by
  have hb := dN_le hr.2.2.2.1
  have hl := hr.1
  by_cases hc : (len : Int) / 2 < getVal zs 8 2
  · refine takeDesc_a a len cap zs w hr (dN zs) hc ?_ hb.1
    unfold dN
    rw [hl, if_pos hc]
    omega
  · refine takeDesc_b a len cap zs w hr (dN zs) (by omega) ?_ hb.1
    unfold dN
    rw [hl, if_neg hc]
    omega

/-- **codec.Undesc**, of a descriptor's bytes. -/
theorem undesc_is (a : Option Addr) (len cap : Nat) (zs : List Int) (w : World) (hr : Row w.heap.size w a len cap zs) (hT : Tab w) (h : descIs zs) :
    Calls Tryz.prog 128 #[.slice a len cap] w fun e w' => ∃ gr, e = .returned (.tuple #[.int .i64 (getVal zs 4 4), .slice (some ⟨gr, 0, none⟩) (dN zs) (dN zs), .int .i64 0]) ∧ w.heap.size ≤ gr ∧ Hid (Bl w' gr (rowK zs (dN zs) (dN zs)) 3) ∧ Below w.heap.size w w' := by
  have hl := hr.1
  refine undesc_yes (getVal zs 4 4) (dN zs) zs a len cap w fun u hb hc => ?_
  have hru := hr.below hb hb.size
  have hTu := hT.below hb (tab_size hT)
  refine readS_same (getVal zs 4 4) (dN zs) w.heap.size zs a len cap u zs hru.has hr.2.2.2.1 hr.2.2.2.1 (by simp) (fun u2 hb2 => takeDesc_any a len cap zs u2 (hru.below hb2 hb2.size)) fun u2 gr hb2 hR => ?_
  refine (undesc1 (getVal zs 4 4) (dN zs) gr w.heap.size a len cap u2 ((hb2.cell (cell_block_lt hc)).trans hc) 0 (fun v w' => ∃ a' n' c', v = .slice a' n' c' ∧ Has w' a' n' zs) fun u3 hb3 => ?_).mono ?_
  · have hT2 := hTu.below hb2 (tab_size hTu)
    refine (desc_ok (getVal zs 4 4) _ _ _ (takeL zs (dN zs)) len u3 (row_ihas (hR.call hb3)) (hT2.below hb3 (tab_size hT2)) (by rw [← hl]; exact h.1)).mono ?_
    rintro e w' ⟨g, rfl, hg, hB, hb⟩
    rw [← hl, h.2] at hB
    exact ⟨_, _, _, rfl, ⟨_, _, _, rfl, hB.out.has hl⟩, hb⟩
  · rintro e w' ⟨a', n', c', rfl, hS, hb⟩
    obtain ⟨a2, n2, c2, e2, hh⟩ := hS.out
    cases e2
    exact ⟨_, _, _, rfl, hh, hb⟩

theorem descE_length {b : Nat} {q : Int} {ns : List Int} (h : descE (b : Int) q ns = 0) : 10 + 2 * ns.length ≤ b ∧ b ≤ 4096 ∧ isSize (b : Int) := by
  unfold descE at h
  by_cases hs : isSize (b : Int)
  · have hbd := size_bd hs
    rw [if_pos (show ((b : Int) = 64 ∨ (b : Int) = 128 ∨ (b : Int) = 256 ∨ (b : Int) = 512 ∨ (b : Int) = 1024 ∨ (b : Int) = 2048 ∨ (b : Int) = 4096) from hs)] at h
    by_cases hf : descF q ns = true
    · rw [if_pos hf] at h
      by_cases hn : ((b : Int) - 10) / 2 < (ns.length : Int)
      · rw [if_pos hn] at h; omega
      · exact ⟨by omega, by omega, hs⟩
    · rw [if_neg hf] at h; omega
  · rw [if_neg (show ¬ ((b : Int) = 64 ∨ (b : Int) = 128 ∨ (b : Int) = 256 ∨ (b : Int) = 512 ∨ (b : Int) = 1024 ∨ (b : Int) = 2048 ∨ (b : Int) = 4096) from hs)] at h; omega

/-- **codec.Undesc**, of other bytes. -/
theorem undesc_not (a : Option Addr) (len cap : Nat) (zs : List Int) (w : World) (hr : Row w.heap.size w a len cap zs) (hT : Tab w) (h : ¬ descIs zs) :
    Calls Tryz.prog 128 #[.slice a len cap] w fun e w' => e = .returned (.tuple #[.int .i64 0, .slice none 0 0, .int .i64 4]) ∧ Below w.heap.size w w' := by
  have hl := hr.1
  have hdn := dN_le hr.2.2.2.1
  refine undesc_no a len cap w fun u hb hc => ?_
  have hru := hr.below hb hb.size
  have hTu := hT.below hb (tab_size hT)
  have HT : Hid (∀ u2, Below u.heap.size u u2 → Calls Tryz.prog 146 #[.slice a len cap] u2 fun e w' => ∃ gr, e = .returned (.agg #[.int .i64 (getVal zs 4 4), .slice (some ⟨gr, 0, none⟩) (dN zs) (dN zs)]) ∧ u2.heap.size ≤ gr ∧ Hid (Bl w' gr (rowK zs (dN zs) (dN zs)) 3) ∧ Below u2.heap.size u2 w') := fun u2 hb2 => takeDesc_any a len cap zs u2 (hru.below hb2 hb2.size)
  by_cases hE : descE (zs.length : Int) (getVal zs 4 4) (takeL zs (dN zs)) = 0
  · have he : descB zs.length (getVal zs 4 4) (takeL zs (dN zs)) ≠ zs := fun e => h ⟨hE, e⟩
    refine readS_other (getVal zs 4 4) (dN zs) w.heap.size zs a len cap u (descB zs.length (getVal zs 4 4) (takeL zs (dN zs))) hru.has hr.2.2.2.1 (descB_byts _ _ _) (decide_eq_false he) HT fun u2 gr hb2 hR => ?_
    refine (undesc1 (getVal zs 4 4) (dN zs) gr w.heap.size a len cap u2 ((hb2.cell (cell_block_lt hc)).trans hc) 0 (fun v w' => ∃ a' n' c', v = .slice a' n' c' ∧ Has w' a' n' (descB zs.length (getVal zs 4 4) (takeL zs (dN zs)))) fun u3 hb3 => ?_).mono ?_
    · have hT2 := hTu.below hb2 (tab_size hTu)
      have hE' := hE
      rw [hl] at hE'
      refine (desc_ok (getVal zs 4 4) _ _ _ (takeL zs (dN zs)) len u3 (row_ihas (hR.call hb3)) (hT2.below hb3 (tab_size hT2)) hE').mono ?_
      rintro e w' ⟨g, rfl, hg, hB, hb⟩
      have hB2 := hB.out.has (descB_length (descE_length hE').1)
      rw [← hl] at hB2
      rw [hl] at hB2
      exact ⟨_, _, _, rfl, ⟨_, _, _, rfl, by rw [hl]; exact hB2⟩, hb⟩
    · rintro e w' ⟨a', n', c', rfl, hS, hb⟩
      obtain ⟨a2, n2, c2, e2, hh⟩ := hS.out
      cases e2
      exact ⟨_, _, _, rfl, hh, hb⟩
  · refine readS_err (getVal zs 4 4) (dN zs) w.heap.size zs a len cap (descE (zs.length : Int) (getVal zs 4 4) (takeL zs (dN zs))) u (by simpa using hE) HT fun u2 gr hb2 hR => ?_
    refine (undesc1 (getVal zs 4 4) (dN zs) gr w.heap.size a len cap u2 ((hb2.cell (cell_block_lt hc)).trans hc) (descE (zs.length : Int) (getVal zs 4 4) (takeL zs (dN zs))) (fun v w' => v = .slice none 0 0) fun u3 hb3 => ?_).mono ?_
    · refine (desc_err (getVal zs 4 4) _ _ _ (takeL zs (dN zs)) (len : Int) u3 (row_ihas (hR.call hb3)) (by omega) (by rw [← hl]; exact hE)).mono ?_
      rintro e w' ⟨rfl, hb⟩
      exact ⟨_, _, _, by rw [hl], rfl, hb⟩
    · rintro e w' ⟨a', n', c', rfl, hS, hb⟩
      have := hS.out
      rw [this]
      exact ⟨rfl, hb⟩

end Go.Proofs.YtadnlljknocbbaaGreatDoor

/- Contracts of skerryref06.Desc. -/
namespace Go.Proofs.YtadnlljknocbbaaGreatDoor
open Go.RowKit Go.Shelf
set_option linter.unusedVariables false
set_option maxRecDepth 100000

set_option maxRecDepth 100000 in
set_option maxHeartbeats 2000000 in
theorem refDesc_arg (q : Int) (a : Option Addr) (len cap : Nat) (ns : List Int) (b : Int) (w : World) (h : ¬ isSize b) :
    Calls Tryz.prog 59 #[.int .i64 q, .slice a len cap, .int .i64 b] w fun e w' => e = .returned (.tuple #[.slice none 0 0, .int .i64 1]) ∧ Below w.heap.size w w' := by
  have K : Hid (∀ u, Calls Tryz.prog 48 #[.int .i64 b] u fun e w' => e = .returned (.bool false) ∧ u = w') := fun u => size_no b u h
  clear h
  go_enter Tryz.func59, Tryz.ntmps59
  go_wp2_with fail
  go_at_call 48
  refine (unhide K _).mono ?_
  rintro e w' ⟨rfl, rfl⟩
  clear K
  go_wp2_with fail
  go_ret2
  exact ⟨rfl, Below.refl _ _⟩

theorem fit_snoc (ns : List Int) (k : Nat) (hk : k < ns.length) : fitB 2 (ns.take (k + 1)) = (fitB 2 (ns.take k) && fitB 2 [ns[k]?.getD 0]) := by
  unfold fitB
  rw [List.take_succ_eq_append_getElem hk, List.all_append, List.getElem?_eq_getElem hk, Option.getD_some]

set_option maxRecDepth 100000 in
set_option maxHeartbeats 1000000 in
theorem refDesc_value (q : Int) (a : Option Addr) (len cap : Nat) (ns : List Int) (b : Int) (w : World) (h : isSize b) (hi : IHas w a len ns) (hl : len ≤ 17592186043904) (hf : descF q ns = false) :
    Calls Tryz.prog 59 #[.int .i64 q, .slice a len cap, .int .i64 b] w fun e w' => e = .returned (.tuple #[.slice none 0 0, .int .i64 3]) ∧ Below w.heap.size w w' := by
  have hbd := size_bd h
  have hlen := hi.1
  have K : Hid (∀ u, Calls Tryz.prog 48 #[.int .i64 b] u fun e w' => e = .returned (.bool true) ∧ u = w') := fun u => size_yes _ u h
  obtain ⟨b0, hb0⟩ : ∃ r, fitB 4 [q] = r := ⟨_, rfl⟩
  have F0 : Hid (∀ u, Calls Tryz.prog 89 #[.int .i64 q, .int .i64 4] u fun e w' => e = .returned (.bool b0) ∧ u = w') := fun u => by have := fits_any q 4 u (by omega); rwa [hb0] at this
  have FD : Hid (∀ z u, Calls Tryz.prog 89 #[.int .i64 z, .int .i64 2] u fun e w' => e = .returned (.bool (fitB 2 [z])) ∧ u = w') := fun z u => fits_any z 2 u (by omega)
  have HJ : Hid (∀ k, k < ns.length → ∀ r, r = (b0 && fitB 2 (ns.take k)) → (r && fitB 2 [ns[k]?.getD 0]) = (b0 && fitB 2 (ns.take (k + 1)))) := by
    intro k hk r hr
    rw [fit_snoc ns k hk, hr, Bool.and_assoc]
  have HF : Hid ((b0 && fitB 2 (ns.take len)) = false) := by
    rw [List.take_of_length_le (by omega), ← hb0]
    exact hf
  have HI := hide hi
  clear h hf hb0 hi
  go_enter Tryz.func59, Tryz.ntmps59
  go_wp2_with fail
  go_at_call 48
  refine (unhide K _).mono ?_
  rintro e w' ⟨rfl, rfl⟩
  clear K
  go_wp2_with fail
  go_at_call 89
  refine (unhide F0 _).mono ?_
  rintro e w' ⟨rfl, rfl⟩
  clear F0
  go_wp2_with fail
  go_loop [8, 9] (fun o i => ∃ (k : Nat) (r : Bool), k ≤ len ∧ i = .int .i64 (k : Int) ∧ o = .bool r ∧ Hid (r = (b0 && fitB 2 (ns.take k)))) (fun _ i => len - (intOf i).toNat)
  case atStart => exact ⟨0, b0, Nat.zero_le _, rfl, rfl, by show b0 = _; simp [fitB]⟩
  case round =>
    obtain ⟨k, r, hk, rfl, rfl, hr⟩ := hrel
    by_cases hlt : k < len
    · have HR := hide (HJ.out k (by omega) r hr.out)
      obtain ⟨bb, off, rfl, hc⟩ := HI.out.2 (by omega)
      have hck := hc k hlt
      clear hr hc
      generalize ns[k]?.getD 0 = z at *
      cases r
      · go_wp2_with fail
        exact ⟨⟨k + 1, _, by omega, by go_num, rfl, HR⟩, by simp [intOf]; omega⟩
      · go_wp2_with fail
        go_at_call 89
        refine (unhide FD _ _).mono ?_
        rintro e w' ⟨rfl, rfl⟩
        go_wp2_with fail
        exact ⟨⟨k + 1, _, by omega, by go_num, rfl, HR⟩, by simp [intOf]; omega⟩
    · obtain rfl : k = len := by omega
      obtain rfl : r = false := by rw [hr.out]; exact HF.out
      clear hr HJ FD
      go_wp2_with fail
      go_ret2
      exact ⟨rfl, Below.refl _ _⟩

set_option maxRecDepth 100000 in
set_option maxHeartbeats 1000000 in
theorem refDesc_large (q : Int) (a : Option Addr) (len cap : Nat) (ns : List Int) (b : Int) (w : World) (h : isSize b) (hi : IHas w a len ns) (hl : len ≤ 17592186043904) (hf : descF q ns = true) (hn : (b - 10) / 2 < (len : Int)) :
    Calls Tryz.prog 59 #[.int .i64 q, .slice a len cap, .int .i64 b] w fun e w' => e = .returned (.tuple #[.slice none 0 0, .int .i64 5]) ∧ Below w.heap.size w w' := by
  have hq1 : decide ((len : Int) > (b - 10) / 2) = true := by simpa using hn
  have hq2 : decide ((len : Int) > Int.tdiv (b - 10) 2) = true := by have := size_bd h; rw [Int.tdiv_eq_ediv_of_nonneg (by omega)]; exact hq1
  clear hn
  have hbd := size_bd h
  have hlen := hi.1
  have K : Hid (∀ u, Calls Tryz.prog 48 #[.int .i64 b] u fun e w' => e = .returned (.bool true) ∧ u = w') := fun u => size_yes _ u h
  obtain ⟨b0, hb0⟩ : ∃ r, fitB 4 [q] = r := ⟨_, rfl⟩
  have F0 : Hid (∀ u, Calls Tryz.prog 89 #[.int .i64 q, .int .i64 4] u fun e w' => e = .returned (.bool b0) ∧ u = w') := fun u => by have := fits_any q 4 u (by omega); rwa [hb0] at this
  have FD : Hid (∀ z u, Calls Tryz.prog 89 #[.int .i64 z, .int .i64 2] u fun e w' => e = .returned (.bool (fitB 2 [z])) ∧ u = w') := fun z u => fits_any z 2 u (by omega)
  have HJ : Hid (∀ k, k < ns.length → ∀ r, r = (b0 && fitB 2 (ns.take k)) → (r && fitB 2 [ns[k]?.getD 0]) = (b0 && fitB 2 (ns.take (k + 1)))) := by
    intro k hk r hr
    rw [fit_snoc ns k hk, hr, Bool.and_assoc]
  have HF : Hid ((b0 && fitB 2 (ns.take len)) = true) := by
    rw [List.take_of_length_le (by omega), ← hb0]
    exact hf
  have HI := hide hi
  clear h hf hb0 hi
  go_enter Tryz.func59, Tryz.ntmps59
  go_wp2_with fail
  go_at_call 48
  refine (unhide K _).mono ?_
  rintro e w' ⟨rfl, rfl⟩
  clear K
  go_wp2_with fail
  go_at_call 89
  refine (unhide F0 _).mono ?_
  rintro e w' ⟨rfl, rfl⟩
  clear F0
  go_wp2_with fail
  go_loop [8, 9] (fun o i => ∃ (k : Nat) (r : Bool), k ≤ len ∧ i = .int .i64 (k : Int) ∧ o = .bool r ∧ Hid (r = (b0 && fitB 2 (ns.take k)))) (fun _ i => len - (intOf i).toNat)
  case atStart => exact ⟨0, b0, Nat.zero_le _, rfl, rfl, by show b0 = _; simp [fitB]⟩
  case round =>
    obtain ⟨k, r, hk, rfl, rfl, hr⟩ := hrel
    by_cases hlt : k < len
    · have HR := hide (HJ.out k (by omega) r hr.out)
      obtain ⟨bb, off, rfl, hc⟩ := HI.out.2 (by omega)
      have hck := hc k hlt
      clear hr hc
      generalize ns[k]?.getD 0 = z at *
      cases r
      · go_wp2_with fail
        exact ⟨⟨k + 1, _, by omega, by go_num, rfl, HR⟩, by simp [intOf]; omega⟩
      · go_wp2_with fail
        go_at_call 89
        refine (unhide FD _ _).mono ?_
        rintro e w' ⟨rfl, rfl⟩
        go_wp2_with fail
        exact ⟨⟨k + 1, _, by omega, by go_num, rfl, HR⟩, by simp [intOf]; omega⟩
    · obtain rfl : k = len := by omega
      obtain rfl : r = true := by rw [hr.out]; exact HF.out
      clear hr HJ FD
      go_wp2_with fail
      go_ret2
      exact ⟨rfl, Below.refl _ _⟩

set_option maxRecDepth 100000 in
set_option maxHeartbeats 1000000 in
theorem refDesc_good (q : Int) (a : Option Addr) (len cap : Nat) (ns : List Int) (b : Nat) (w : World) (h : isSize (b : Int)) (hi : IHas w a len ns) (hf : descF q ns = true) (hn : 10 + 2 * len ≤ b) :
    Calls Tryz.prog 59 #[.int .i64 q, .slice a len cap, .int .i64 (b : Int)] w fun e w' => ∃ a' c', e = .returned (.tuple #[.slice a' b c', .int .i64 0]) ∧ Hid (Has w' a' b (descB b q ns)) ∧ Below w.heap.size w w' := by
  have hq1 : decide ((len : Int) > ((b : Int) - 10) / 2) = false := by simp; omega
  have hq2 : decide ((len : Int) > Int.tdiv ((b : Int) - 10) 2) = false := by have := size_bd h; rw [Int.tdiv_eq_ediv_of_nonneg (by omega)]; exact hq1
  have hbd0 := size_bd h
  have hlen0 := hi.1
  have HV : Hid ((0 ≤ q ∧ q ≤ 4294967296) ∧ ∀ k, k < len → 0 ≤ ns[k]?.getD 0 ∧ ns[k]?.getD 0 ≤ 4294967296) := by
    have h1 := hf
    unfold descF at h1
    rw [Bool.and_eq_true] at h1
    refine ⟨fit_bd h1.1 (by omega) _ (by simp), fun k hk => fit_bd h1.2 (by omega) _ ?_⟩
    rw [List.getElem?_eq_getElem (by omega)]
    exact List.getElem_mem _
  have HM := hide (fun k hk => numsB_succ 2 ns k hk)
  obtain ⟨D, hD⟩ : ∃ D : Nat, D = b - 4 := ⟨_, rfl⟩
  have hDi : (b : Int) - 4 = (D : Int) := by omega
  have hR0 : layB D ([] ++ digits 4 q ++ digits 2 (len : Int) ++ numsB 2 (ns.take len)) = descR b q ns := by
    rw [List.take_of_length_le (by omega), descR, hD, hlen0]
    simp [numsB]
  have HR := hide hR0
  have hl : len ≤ 2048 := by omega
  have HBy := hide (descR_byts b q ns)
  have hQ0 : descB b q ns = [] ++ digits 4 ((sumS (descR b q ns) : Nat) : Int) ++ descR b q ns := by
    rw [descB, layB_full]
    · simp
    · rw [List.length_append, length_digits, descR_length (by omega)]; omega
  have HQ := hide hQ0
  have HD : Hid (4 + D = b ∧ D ≤ 4092 ∧ 6 + 2 * len ≤ D) := ⟨by omega, by omega, by omega⟩
  have hS := sumS_lt (descR_byts b q ns)
  have HN := hide hn
  clear hR0 hQ0
  generalize descR b q ns = R at *
  clear hn hD hbd0 hlen0
  have hbd := size_bd h
  have hlen := hi.1
  have K : Hid (∀ u, Calls Tryz.prog 48 #[.int .i64 (b : Int)] u fun e w' => e = .returned (.bool true) ∧ u = w') := fun u => size_yes _ u h
  obtain ⟨b0, hb0⟩ : ∃ r, fitB 4 [q] = r := ⟨_, rfl⟩
  have F0 : Hid (∀ u, Calls Tryz.prog 89 #[.int .i64 q, .int .i64 4] u fun e w' => e = .returned (.bool b0) ∧ u = w') := fun u => by have := fits_any q 4 u (by omega); rwa [hb0] at this
  have FD : Hid (∀ z u, Calls Tryz.prog 89 #[.int .i64 z, .int .i64 2] u fun e w' => e = .returned (.bool (fitB 2 [z])) ∧ u = w') := fun z u => fits_any z 2 u (by omega)
  have HJ : Hid (∀ k, k < ns.length → ∀ r, r = (b0 && fitB 2 (ns.take k)) → (r && fitB 2 [ns[k]?.getD 0]) = (b0 && fitB 2 (ns.take (k + 1)))) := by
    intro k hk r hr
    rw [fit_snoc ns k hk, hr, Bool.and_assoc]
  have HF : Hid ((b0 && fitB 2 (ns.take len)) = true) := by
    rw [List.take_of_length_le (by omega), ← hb0]
    exact hf
  have HI := hide hi
  clear h hf hb0 hi
  go_enter Tryz.func59, Tryz.ntmps59
  go_wp2_with fail
  go_at_call 48
  refine (unhide K _).mono ?_
  rintro e w' ⟨rfl, rfl⟩
  clear K
  go_wp2_with fail
  go_at_call 89
  refine (unhide F0 _).mono ?_
  rintro e w' ⟨rfl, rfl⟩
  clear F0
  go_wp2_with fail
  go_loop [8, 9] (fun o i => ∃ (k : Nat) (r : Bool), k ≤ len ∧ i = .int .i64 (k : Int) ∧ o = .bool r ∧ Hid (r = (b0 && fitB 2 (ns.take k)))) (fun _ i => len - (intOf i).toNat)
  case atStart => exact ⟨0, b0, Nat.zero_le _, rfl, rfl, by show b0 = _; simp [fitB]⟩
  case round =>
    obtain ⟨k, r, hk, rfl, rfl, hr⟩ := hrel
    by_cases hlt : k < len
    · have HR := hide (HJ.out k (by omega) r hr.out)
      obtain ⟨bb, off, rfl, hc⟩ := HI.out.2 (by omega)
      have hck := hc k hlt
      clear hr hc
      generalize ns[k]?.getD 0 = z at *
      cases r
      · go_wp2_with fail
        exact ⟨⟨k + 1, _, by omega, by go_num, rfl, HR⟩, by simp [intOf]; omega⟩
      · go_wp2_with fail
        go_at_call 89
        refine (unhide FD _ _).mono ?_
        rintro e w' ⟨rfl, rfl⟩
        go_wp2_with fail
        exact ⟨⟨k + 1, _, by omega, by go_num, rfl, HR⟩, by simp [intOf]; omega⟩
    · obtain rfl : k = len := by omega
      obtain rfl : r = true := by rw [hr.out]; exact HF.out
      clear hr HJ FD
      have HB := hide (Below.refl w.heap.size w)
      go_wp2_with fail
      go_at_call 90
      refine (refput_m w.heap.size _ 0 _ [] 4 q _ 4 rfl (Own.nil _ _) (Nat.le_refl _) ⟨by omega, by omega⟩ HV.out.1 (by omega)).mono ?_
      rintro e w1 ⟨a1, c1, rfl, hO1, hb⟩
      replace HB := hide (HB.out.trans hb)
      clear hb
      go_wp2_with fail
      go_at_call 90
      refine (refput_m w.heap.size _ 4 _ _ 2 (k : Int) _ 6 rfl hO1.out HB.out.size ⟨by omega, by omega⟩ (by have := HD.out; omega) (by omega)).mono ?_
      rintro e w2 ⟨a2, c2, rfl, hO2, hb⟩
      replace HB := hide (HB.out.trans hb)
      clear hb hO1
      go_wp2_with fail
      go_loopw [10, 11] (fun s' i wr => ∃ (j m : Nat) (a' : Option Addr) (c' : Nat), j ≤ k ∧ i = .int .i64 (j : Int) ∧ s' = .slice a' m c' ∧ Hid (m = 6 + 2 * j ∧ Own w.heap.size wr a' m c' ([] ++ digits 4 q ++ digits 2 (k : Int) ++ numsB 2 (ns.take j))) ∧ Hid (Below w.heap.size w wr)) (fun _ i _ => k - (intOf i).toNat)
      case atStart => exact ⟨0, 6, a2, c2, Nat.zero_le _, rfl, rfl, ⟨rfl, by simpa [numsB] using hO2.out⟩, HB⟩
      case round =>
        obtain ⟨j, m, a', c', hj, rfl, rfl, hO, hBj⟩ := hrel
        clear HB hO2
        by_cases hlt2 : j < k
        · have hv := HV.out.2 j hlt2
          have hm := hO.out.1
          obtain ⟨bb, off, rfl, hc⟩ := (HI.out.later hBj.out).2 (by omega)
          have hcj := hc j hlt2
          have hsu := HM.out j (by omega)
          generalize ns[j]?.getD 0 = z at *
          have KQ : Hid (Calls Tryz.prog 90 #[.slice a' m c', .int .i64 2, .int .i64 z] wr fun e w' => ∃ a5 c5, e = .returned (.slice a5 (m + 2) c5) ∧ Hid (m + 2 = 6 + 2 * (j + 1) ∧ Own w.heap.size w' a5 (m + 2) c5 ([] ++ digits 4 q ++ digits 2 (k : Int) ++ numsB 2 (ns.take (j + 1)))) ∧ Hid (Below w.heap.size w w')) := by
            refine (refput_m w.heap.size _ m _ _ 2 z _ (m + 2) rfl hO.out.2 hBj.out.size ⟨by omega, by omega⟩ hv (by have := HD.out; omega)).mono ?_
            rintro e w' ⟨a5, c5, rfl, hO', hb⟩
            refine ⟨a5, c5, rfl, ⟨by omega, ?_⟩, hBj.out.trans hb⟩
            have := hO'.out
            rwa [List.append_assoc, ← hsu] at this
          clear hm hv hc hsu hO hBj
          go_wp2_with fail
          go_at_call 90
          refine (unhide KQ).mono ?_
          rintro e w5 ⟨a5, c5, rfl, hO5, hB5⟩
          clear KQ hcj
          go_wp2_with fail
          exact ⟨⟨j + 1, m + 2, a5, c5, by omega, by go_num, rfl, hO5, hB5⟩, by simp [intOf]; omega⟩
        · obtain rfl : j = k := by omega
          have hOm := hO.out.1
          have KP : Hid (Calls Tryz.prog 92 #[.slice a' m c', .int .i64 (D : Int)] wr fun e w' => ∃ a5 c5, e = .returned (.slice a5 D c5) ∧ Hid (Own w.heap.size w' a5 D c5 R) ∧ Hid (Below w.heap.size w w')) := by
            refine (padded_any w.heap.size a' m c' D _ wr hO.out.2 hBj.out.size (by have := HD.out; omega) (by have := HD.out; omega)).mono ?_
            rintro e w' ⟨a5, c5, rfl, hO5, hb⟩
            refine ⟨a5, c5, rfl, ?_, hBj.out.trans hb⟩
            have := hO5.out
            rwa [HR.out] at this
          clear hO hBj HM HR hOm
          go_wp2_with fail
          go_at_call 92
          refine (unhide KP).mono ?_
          rintro e w6 ⟨a6, c6, rfl, hO6, hB6⟩
          clear KP
          have KS : Hid (Calls Tryz.prog 91 #[.slice a6 D c6] w6 fun e w' => e = .returned (.int .i64 ((sumS R : Nat) : Int)) ∧ w6 = w') := refSum_any _ D _ _ _ hO6.out.has (by have := HD.out; omega) HBy.out
          generalize sumS R = S at *
          go_wp2_with fail
          go_at_call 91
          refine (unhide KS).mono ?_
          rintro e w' ⟨rfl, rfl⟩
          clear KS
          have KZ : Hid (Calls Tryz.prog 90 #[.slice none 0 0, .int .i64 4, .int .i64 (S : Int)] w6 fun e w' => ∃ a7 c7 a8 c8 w8, e = .returned (.slice a7 4 c7) ∧ (∀ ty, (Builtin.append_ #[50, 50] ty #[.slice a7 4 c7, .slice a6 D c6]).run Tryz.prog w' = .ok (.slice a8 b c8) w8) ∧ Hid (Has w8 a8 b (descB b q ns)) ∧ Hid (Below w.heap.size w w8)) := by
            refine (refput_m w6.heap.size _ 0 _ [] 4 (S : Int) _ 4 rfl (Own.nil _ _) (Nat.le_refl _) ⟨by omega, by omega⟩ (by omega) (by omega)).mono ?_
            rintro e w7 ⟨a7, c7, rfl, hO7, hb7⟩
            obtain ⟨a8, c8, w8, hr8, hO8, _, hb8⟩ := run_append_bytes (hO7.out.base hB6.out.size) (Nat.le_trans hB6.out.size hb7.size) c6 (hO6.out.has.later hb7) (by have := HD.out; omega)
            rw [HD.out.1] at hr8 hO8
            refine ⟨a7, c7, a8, c8, w8, rfl, hr8, ?_, (bchain hB6.out hb7 (Nat.le_refl _)).trans hb8⟩
            rw [HQ.out]
            exact hO8.has
          clear hO6 hB6 HQ hS
          go_wp2_with fail
          go_at_call 90
          refine (unhide KZ).mono ?_
          rintro e w7 ⟨a7, c7, a8, c8, w8, rfl, r8, x8, b8⟩
          have R8 := hide r8
          clear r8 KZ
          go_wp2_with (at_builtin; refine wpList_append_run 50 rfl _ _ rfl _ _ _ rfl rfl (unhide R8) ?_; clear R8)
          go_ret2
          exact ⟨a8, c8, rfl, x8, b8.out⟩

end Go.Proofs.YtadnlljknocbbaaGreatDoor

/- Contracts of skerryref06.Undesc. -/
namespace Go.Proofs.YtadnlljknocbbaaGreatDoor
open Go.RowKit Go.Shelf
set_option linter.unusedVariables false
set_option maxRecDepth 100000

/-- append(l, x): one number behind a row of the call's own. -/
theorem append_int {B : Nat} {w : World} {a : Option Addr} {n c : Nat} {ns : List Int} (h : w.ownsRow B 3 1 (.slice a n c) n (ns.map (Value.int .i64))) (hB : B ≤ w.heap.size) (nb : Nat) (z : Int) (hz : w.cell? ⟨nb, 0, none⟩ = some (.int .i64 z)) (hn : n ≤ 65536) (hblk : ∀ k, (Value.slice a n c).ownBlock = some k → B ≤ k) :
    ∃ a' c' w', (∀ ty, (Builtin.append_ #[40, 40] ty #[.slice a n c, .slice (some ⟨nb, 0, none⟩) 1 1]).run Tryz.prog w = .ok (.slice a' (n + 1) c') w') ∧ w'.ownsRow B 3 1 (.slice a' (n + 1) c') (n + 1) ((ns ++ [z]).map (Value.int .i64)) ∧ Below B w w' := by
  obtain ⟨i0, hi, hz0, hz1, hz2⟩ := info_parts info3
  have hnews : ∀ (j : Nat) (u : Value), ([z].map (Value.int .i64))[j]? = some u → w.cell? ((⟨nb, 0, none⟩ : Addr).add j) = some u := by
    intro j u hj
    cases j with
    | zero => simp at hj; subst hj; simpa [Addr.add] using hz
    | succ j => simp at hj
  obtain ⟨v', w', hr, ho, hg, _⟩ := run_append_own (P := Tryz.prog) w B 40 0 3 i0 (.int .i64 0) 1 8 Tryz.underlying40 hi hz0 hz1 hz2 rfl (by decide) (.slice a n c) n _ h ⟨nb, 0, none⟩ 1 1 ([z].map (Value.int .i64)) rfl hnews (oneCell_ints [z]) (by unfold maxLen; omega) (by omega) hB
  rw [← List.map_append] at ho
  obtain ⟨a', c', rfl, hI⟩ := ihas_of_row ho
  exact ⟨a', c', w', fun ty => hr, ho, (Below.refl B w).grown hg hB hblk⟩

theorem own_blk {B : Nat} {w : World} {a : Option Addr} {n c : Nat} {xs : List Value} (h : w.ownsRow B 3 1 (.slice a n c) n xs) : ∀ k, (Value.slice a n c).ownBlock = some k → B ≤ k := by
  intro k e
  rcases h.2 with ⟨e1, _⟩ | ⟨g, cap, cur, e1, hg, _⟩
  · cases e1
    simp [Value.ownBlock] at e
  · cases e1
    simp [Value.ownBlock] at e
    omega

theorem own_alloc {B : Nat} {w : World} {v : Value} {n : Nat} {xs : List Value} (h : w.ownsRow B 3 1 v n xs) (o : Obj) : (w.alloc o).ownsRow B 3 1 v n xs := by
  refine ⟨h.1, ?_⟩
  rcases h.2 with h2 | ⟨g, cap, cur, e1, hg, hh, r⟩
  · exact .inl h2
  · refine .inr ⟨g, cap, cur, e1, hg, ?_, r⟩
    rw [Below.heap_alloc w o g (Array.getElem?_eq_some_iff.1 hh).1]
    exact hh

set_option maxRecDepth 100000 in
set_option maxHeartbeats 2000000 in
theorem refUndesc_size (a : Option Addr) (len cap : Nat) (w : World) (hl : len ≤ 140737488351232) (h : ¬ isSize (len : Int)) :
    Calls Tryz.prog 95 #[.slice a len cap] w fun e w' => e = .returned (.tuple #[.int .i64 0, .slice none 0 0, .int .i64 4]) ∧ Below w.heap.size w w' := by
  have K : Hid (∀ u, Calls Tryz.prog 48 #[.int .i64 (len : Int)] u fun e w' => e = .returned (.bool false) ∧ u = w') := fun u => size_no _ u h
  clear h
  go_enter Tryz.func95, Tryz.ntmps95
  go_wp2_with fail
  go_at_call 48
  refine (unhide K _).mono ?_
  rintro e w' ⟨rfl, rfl⟩
  clear K
  go_wp2_with fail
  go_ret3
  exact ⟨rfl, Below.refl _ _⟩

set_option maxRecDepth 100000 in
set_option maxHeartbeats 2000000 in
theorem refUndesc_big (a : Option Addr) (len cap : Nat) (zs : List Int) (w : World) (hr : Row w.heap.size w a len cap zs) (h : isSize (len : Int)) (hn : ((len : Int) - 10) / 2 < getVal zs 8 2) :
    Calls Tryz.prog 95 #[.slice a len cap] w fun e w' => e = .returned (.tuple #[.int .i64 0, .slice none 0 0, .int .i64 4]) ∧ Below w.heap.size w w' := by
  have hbd := size_bd h
  have K : Hid (∀ u, Calls Tryz.prog 48 #[.int .i64 (len : Int)] u fun e w' => e = .returned (.bool true) ∧ u = w') := fun u => size_yes _ u h
  have KG : Hid (∀ (at' n0 : Int) (u : World), at' ≤ 200000 → Below w.heap.size w u → Calls Tryz.prog 118 #[.slice a len cap, .int .i64 at', .int .i64 n0] u fun e w' => e = .returned (.int .i64 (getVal zs at' n0)) ∧ u = w') :=
    fun at' n0 u h1 hb => num_drop0 a len cap zs at' n0 u (hr.below hb hb.size) (by omega)
  obtain ⟨C, hC⟩ : ∃ C, getVal zs 8 2 = C := ⟨_, rfl⟩
  have KC : Hid (∀ u, Below w.heap.size w u → Calls Tryz.prog 118 #[.slice a len cap, .int .i64 8, .int .i64 2] u fun e w' => e = .returned (.int .i64 C) ∧ u = w') := fun u hb => by have := KG.out 8 2 u (by omega) hb; rwa [hC] at this
  rw [hC] at hn
  clear KG hC
  have hq1 : decide (C > ((len : Int) - 10) / 2) = true := by simpa using hn
  have hq2 : decide (C > Int.tdiv ((len : Int) - 10) 2) = true := by rw [Int.tdiv_eq_ediv_of_nonneg (by omega)]; exact hq1
  clear h hr hn
  go_enter Tryz.func95, Tryz.ntmps95
  go_wp2_with fail
  go_at_call 48
  refine (unhide K _).mono ?_
  rintro e w' ⟨rfl, rfl⟩
  clear K
  go_wp2_with fail
  go_at_call 118
  refine (unhide KC _ (Below.refl _ _)).mono ?_
  rintro e w' ⟨rfl, rfl⟩
  clear KC
  go_wp2_with fail
  go_ret3
  exact ⟨rfl, Below.refl _ _⟩

set_option maxRecDepth 100000 in
set_option maxHeartbeats 8000000 in
theorem refUndesc_cmp (a : Option Addr) (len cap : Nat) (zs xs : List Int) (w : World) (hr : Row w.heap.size w a len cap zs) (h : isSize (len : Int)) (N : Nat) (hN : getVal zs 8 2 = (N : Int)) (hn : 10 + 2 * N ≤ len) (hx : ∀ z ∈ xs, 0 ≤ z ∧ z ≤ 255) (r : Bool) (hd : decide (xs = zs) = !r)
    (KD : Hid (∀ u a' c', IHas u a' N (takeL zs N) → Calls Tryz.prog 59 #[.int .i64 (getVal zs 4 4), .slice a' N c', .int .i64 (len : Int)] u fun e w' => ∃ a5 n5 c5 E, e = .returned (.tuple #[.slice a5 n5 c5, .int .i64 E]) ∧ Hid (Has w' a5 n5 xs) ∧ Below u.heap.size u w')) :
    Calls Tryz.prog 95 #[.slice a len cap] w fun e w' => ∃ a' c', e = .returned (.tuple #[.int .i64 (if r then 0 else getVal zs 4 4), .slice a' (if r then 0 else N) c', .int .i64 (if r then 4 else 0)]) ∧ Hid (IHas w' a' (if r then 0 else N) (if r then [] else takeL zs N)) ∧ Below w.heap.size w w' := by
  have hbd := size_bd h
  have K : Hid (∀ u, Calls Tryz.prog 48 #[.int .i64 (len : Int)] u fun e w' => e = .returned (.bool true) ∧ u = w') := fun u => size_yes _ u h
  have KG : Hid (∀ (at' n0 : Int) (u : World), at' ≤ 200000 → Below w.heap.size w u → Calls Tryz.prog 118 #[.slice a len cap, .int .i64 at', .int .i64 n0] u fun e w' => e = .returned (.int .i64 (getVal zs at' n0)) ∧ u = w') :=
    fun at' n0 u h1 hb => num_drop0 a len cap zs at' n0 u (hr.below hb hb.size) (by omega)
  have KC : Hid (∀ u, Below w.heap.size w u → Calls Tryz.prog 118 #[.slice a len cap, .int .i64 8, .int .i64 2] u fun e w' => e = .returned (.int .i64 (N : Int)) ∧ u = w') := fun u hb => by have := KG.out 8 2 u (by omega) hb; rwa [hN] at this
  have hq1 : decide ((N : Int) > ((len : Int) - 10) / 2) = false := by simp; omega
  have hq2 : decide ((N : Int) > Int.tdiv ((len : Int) - 10) 2) = false := by rw [Int.tdiv_eq_ediv_of_nonneg (by omega)]; exact hq1
  have hN2 : N ≤ 2048 := by omega
  have hne := str_neq hx hr.2.2.2.1 r hd
  have HRow := hide hr
  have KH : Hid (∀ u a' c', Below w.heap.size w u → IHas u a' N (takeL zs N) → Calls Tryz.prog 59 #[.int .i64 (getVal zs 4 4), .slice a' N c', .int .i64 (len : Int)] u fun e w' => ∃ a5 n5 c5 E, e = .returned (.tuple #[.slice a5 n5 c5, .int .i64 E]) ∧ (convert 50 9 (.slice a5 n5 c5)).run Tryz.prog w' = .ok (.string (strOfNums xs)) w' ∧ (convert 50 9 (.slice a len cap)).run Tryz.prog w' = .ok (.string (strOfNums zs)) w' ∧ Hid (IHas w' a' N (takeL zs N)) ∧ Below u.heap.size u w') := by
    intro u a' c' hb hI
    refine (unhide KD u a' c' hI).mono ?_
    rintro e w' ⟨a5, n5, c5, E, rfl, hh, hb'⟩
    have hru := (hr.below hb hb.size).below hb' hb'.size
    exact ⟨a5, n5, c5, E, rfl, hh.out.conv c5, hru.has.conv cap, hI.later hb', hb'⟩
  clear h hr hd hn hN KD hx
  generalize strOfNums xs = S1 at *
  generalize strOfNums zs = S2 at *
  have HQ := hide (fun u (hb : Below w.heap.size w u) => unhide KG 4 4 u (by omega) hb)
  have HL : Hid (∀ k : Nat, takeL zs (k + 1) = takeL zs k ++ [getVal zs (10 + 2 * (k : Int)) 2]) := fun k => takeL_succ zs k
  go_enter Tryz.func95, Tryz.ntmps95
  go_wp2_with fail
  go_at_call 48
  refine (unhide K _).mono ?_
  rintro e w' ⟨rfl, rfl⟩
  clear K
  go_wp2_with fail
  go_at_call 118
  refine (unhide KC _ (Below.refl _ _)).mono ?_
  rintro e w' ⟨rfl, rfl⟩
  clear KC
  go_wp2_with fail
  go_loopw [6, 7] (fun s' i wr => ∃ (k : Nat) (a' : Option Addr) (c' : Nat), k ≤ N ∧ i = .int .i64 (k : Int) ∧ s' = .slice a' k c' ∧ Hid (wr.ownsRow w.heap.size 3 1 (.slice a' k c') k ((takeL zs k).map (Value.int .i64))) ∧ Hid (Below w.heap.size w wr)) (fun _ i _ => N - (intOf i).toNat)
  case atStart => exact ⟨0, none, 0, Nat.zero_le _, rfl, rfl, ⟨rfl, .inl ⟨rfl, rfl⟩⟩, Below.refl _ _⟩
  case round =>
    obtain ⟨k, a1, c1, hk, rfl, rfl, hO, hB⟩ := hrel
    by_cases hlt : k < N
    · have KV := hide (unhide KG (10 + 2 * (k : Int)) 2 wr (by omega) hB.out)
      have hsu := HL.out k
      obtain ⟨z, hz⟩ : ∃ z, getVal zs (10 + 2 * (k : Int)) 2 = z := ⟨_, rfl⟩
      rw [hz] at KV hsu
      have hcell : (wr.alloc (.cells #[.int .i64 z] 3)).cell? ⟨wr.heap.size, 0, none⟩ = some (.int .i64 z) := (Bl.new wr #[.int .i64 z] 3).cell 0 _ rfl
      have hbA : Below w.heap.size w (wr.alloc (.cells #[.int .i64 z] 3)) := hB.out.alloc hB.out.size _
      obtain ⟨a2, c2, w2, r2, o2, b2⟩ := append_int (own_alloc hO.out (.cells #[.int .i64 z] 3)) hbA.size wr.heap.size z hcell (by omega) (own_blk (own_alloc hO.out (.cells #[.int .i64 z] 3)))
      have HO : Hid (w2.ownsRow w.heap.size 3 1 (.slice a2 (k + 1) c2) (k + 1) ((takeL zs (k + 1)).map (Value.int .i64))) := by
        rw [hsu]; exact o2
      have HBn : Hid (Below w.heap.size w w2) := hbA.trans b2
      have R2 := hide r2
      clear r2 o2 b2 hcell hbA hO hB hsu hz
      go_wp2_with fail
      go_at_call 118
      refine (unhide KV).mono ?_
      rintro e w' ⟨rfl, rfl⟩
      clear KV
      go_wp2_with (at_builtin; refine wpList_append_run 40 rfl _ _ rfl _ _ _ rfl rfl (unhide R2) ?_; clear R2)
      exact ⟨⟨k + 1, a2, c2, by omega, by go_num, rfl, HO, HBn⟩, by simp [intOf]; omega⟩
    · obtain rfl : k = N := by omega
      obtain ⟨a3, c3, e3, hI⟩ := ihas_of_row hO.out
      cases e3
      have K4 := hide (unhide HQ wr hB.out)
      have K5 := hide (unhide KH wr a1 c1 hB.out hI)
      have K6 := hide (fun u (hb : Below w.heap.size w u) => unhide HQ u hb)
      clear hO hI HL KH HQ KG
      generalize hg : getVal zs 4 4 = q at *
      have HG := hide hg
      clear hg
      go_wp2_with fail
      go_at_call 118
      refine (unhide K4).mono ?_
      rintro e w' ⟨rfl, rfl⟩
      clear K4
      go_wp2_with fail
      go_at_call 59
      refine (unhide K5).mono ?_
      rintro e w5 ⟨a5, n5, c5, E, rfl, cv1, cv2, hI5, hb⟩
      replace hB := hide (bchain hB.out hb (Nat.le_refl _))
      clear hb K5
      cases r
      · go_wp2_with fail
        go_at_call 118
        refine (unhide K6 _ hB.out).mono ?_
        rintro e w' ⟨rfl, rfl⟩
        go_wp2_with fail
        go_ret3
        first
          | exact ⟨a1, c1, by first | rfl | (rw [← HG.out]; rfl), hI5, hB.out⟩
          | exact ⟨⟨a1, ⟨c1, by first | rfl | (rw [← HG.out]; rfl)⟩, hI5⟩, hB.out⟩
          | exact ⟨a1, ⟨c1, by first | rfl | (rw [← HG.out]; rfl)⟩, hI5, hB.out⟩
      · go_wp2_with fail
        go_ret3
        first
          | exact ⟨none, 0, rfl, ⟨rfl, fun h => absurd h (by simp)⟩, hB.out⟩
          | exact ⟨⟨none, ⟨0, rfl⟩, ⟨rfl, fun h => absurd h (by simp)⟩⟩, hB.out⟩
          | exact ⟨none, ⟨0, rfl⟩, ⟨rfl, fun h => absurd h (by simp)⟩, hB.out⟩

end Go.Proofs.YtadnlljknocbbaaGreatDoor

