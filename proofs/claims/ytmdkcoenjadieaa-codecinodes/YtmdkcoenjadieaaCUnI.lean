/- Contracts of codec.Uninode and codec.Undirent. -/
import Derived.Test.YtmdkcoenjadieaaCTakeI
import Derived.Test.YtmdkcoenjadieaaCReadI
import Derived.Test.YtmdkcoenjadieaaCIno2
import Derived.Test.YtmdkcoenjadieaaCDir2
namespace Go.Proofs.Ytmdkcoenjadieaa
open Go.RowKit Go.Shelf
set_option linter.unusedVariables false
set_option maxRecDepth 100000

set_option maxHeartbeats 4000000 in
theorem uninode_w (X : Nat → Int) (q : Int) (a : Option Addr) (len cap : Nat) (w : World) (K : Hid (∀ u, Below w.heap.size w u → Calls Try.prog 22 #[.slice a len cap, .func (.func 23) #[] #[], .func (.func 5) #[] #[]] u fun e w' => e = .returned (.tuple #[Iv X, .int .i64 q]) ∧ Below u.heap.size u w')) :
    Calls Try.prog 7 #[.slice a len cap] w fun e w' => e = .returned (.tuple #[Iv X, .int .i64 q]) ∧ Below w.heap.size w w' := by
  have HZ := hide (Bl.new w Iz 24)
  have HB := hide ((Below.refl _ w).alloc (Nat.le_refl _) (.cells Iz 24))
  go_enter Try.func7, Try.ntmps7
  go_wp2_with fail
  go_at_call 22
  refine (unhide K _ HB.out).mono ?_
  rintro e w1 ⟨rfl, hb⟩
  replace HB := hide (bchain HB.out hb (Nat.le_refl _))
  replace HZ := hide (HZ.out.call hb)
  clear hb K
  have z0 := HZ.out.cell 0 _ rfl
  have z1 := HZ.out.cell 1 _ rfl
  have z2 := HZ.out.cell 2 _ rfl
  have z3 := HZ.out.cell 3 _ rfl
  have z4 := HZ.out.cell 4 _ rfl
  have z5 := HZ.out.cell 5 _ rfl
  have z6 := HZ.out.cell 6 _ rfl
  have z7 := HZ.out.cell 7 _ rfl
  have z8 := HZ.out.cell 8 _ rfl
  have z9 := HZ.out.cell 9 _ rfl
  have z10 := HZ.out.cell 10 _ rfl
  have z11 := HZ.out.cell 11 _ rfl
  have z12 := HZ.out.cell 12 _ rfl
  have hz := HZ.out.free
  go_wp2_with fail
  have hW : Below w.heap.size w (setAll w1 w.heap.size 0 [.int .i64 (X 0), .int .i64 (X 1), .int .i64 (X 2), .int .i64 (X 3), .int .i64 (X 4), .int .i64 (X 5), .int .i64 (X 6), .int .i64 (X 7), .int .i64 (X 8), .int .i64 (X 9), .int .i64 (X 10), .int .i64 (X 11), .int .i64 (X 12)]) := below_setAll (Nat.le_refl _) _ _ _ _ HB.out
  have hA : Bl (setAll w1 w.heap.size 0 [.int .i64 (X 0), .int .i64 (X 1), .int .i64 (X 2), .int .i64 (X 3), .int .i64 (X 4), .int .i64 (X 5), .int .i64 (X 6), .int .i64 (X 7), .int .i64 (X 8), .int .i64 (X 9), .int .i64 (X 10), .int .i64 (X 11), .int .i64 (X 12)]) w.heap.size #[.int .i64 (X 0), .int .i64 (X 1), .int .i64 (X 2), .int .i64 (X 3), .int .i64 (X 4), .int .i64 (X 5), .int .i64 (X 6), .int .i64 (X 7), .int .i64 (X 8), .int .i64 (X 9), .int .i64 (X 10), .int .i64 (X 11), .int .i64 (X 12)] 24 := setAll_whole [.int .i64 (X 0), .int .i64 (X 1), .int .i64 (X 2), .int .i64 (X 3), .int .i64 (X 4), .int .i64 (X 5), .int .i64 (X 6), .int .i64 (X 7), .int .i64 (X 8), .int .i64 (X 9), .int .i64 (X 10), .int .i64 (X 11), .int .i64 (X 12)] _ _ HZ.out rfl
  change bodyPost _ _ _ _ _ (setAll w1 w.heap.size 0 [.int .i64 (X 0), .int .i64 (X 1), .int .i64 (X 2), .int .i64 (X 3), .int .i64 (X 4), .int .i64 (X 5), .int .i64 (X 6), .int .i64 (X 7), .int .i64 (X 8), .int .i64 (X 9), .int .i64 (X 10), .int .i64 (X 11), .int .i64 (X 12)])
  generalize setAll w1 w.heap.size 0 [.int .i64 (X 0), .int .i64 (X 1), .int .i64 (X 2), .int .i64 (X 3), .int .i64 (X 4), .int .i64 (X 5), .int .i64 (X 6), .int .i64 (X 7), .int .i64 (X 8), .int .i64 (X 9), .int .i64 (X 10), .int .i64 (X 11), .int .i64 (X 12)] = wf at *
  refine bodyPost_ret (v := .tuple #[Iv X, .int .i64 q]) ?_ rfl ⟨by first | rfl | rw [HX.out], hW⟩
  simp [results, Try.results7, go_sem, hA.cell 0 _ rfl, hA.cell 1 _ rfl, hA.cell 2 _ rfl, hA.cell 3 _ rfl, hA.cell 4 _ rfl, hA.cell 5 _ rfl, hA.cell 6 _ rfl, hA.cell 7 _ rfl, hA.cell 8 _ rfl, hA.cell 9 _ rfl, hA.cell 10 _ rfl, hA.cell 11 _ rfl, hA.cell 12 _ rfl]

set_option maxHeartbeats 4000000 in
theorem undirent_w (i : Int) (s : ByteArray) (q : Int) (a : Option Addr) (len cap : Nat) (w : World) (K : Hid (∀ u, Below w.heap.size w u → Calls Try.prog 26 #[.slice a len cap, .func (.func 27) #[] #[], .func (.func 9) #[] #[]] u fun e w' => e = .returned (.tuple #[Dv i s, .int .i64 q]) ∧ Below u.heap.size u w')) :
    Calls Try.prog 11 #[.slice a len cap] w fun e w' => e = .returned (.tuple #[Dv i s, .int .i64 q]) ∧ Below w.heap.size w w' := by
  have HZ := hide (Bl.new w #[.int .i64 0, .string ⟨#[]⟩] 26)
  have HB := hide ((Below.refl _ w).alloc (Nat.le_refl _) (.cells #[.int .i64 0, .string ⟨#[]⟩] 26))
  go_enter Try.func11, Try.ntmps11
  go_wp2_with fail
  go_at_call 26
  refine (unhide K _ HB.out).mono ?_
  rintro e w1 ⟨rfl, hb⟩
  replace HB := hide (bchain HB.out hb (Nat.le_refl _))
  replace HZ := hide (HZ.out.call hb)
  clear hb K
  have z0 := HZ.out.cell 0 _ rfl
  have z1 := HZ.out.cell 1 _ rfl
  have hz := HZ.out.free
  go_wp2_with fail
  have hW : Below w.heap.size w (setAll w1 w.heap.size 0 [.int .i64 i, .string s]) := below_setAll (Nat.le_refl _) _ _ _ _ HB.out
  have hA : Bl (setAll w1 w.heap.size 0 [.int .i64 i, .string s]) w.heap.size #[.int .i64 i, .string s] 26 := setAll_whole [.int .i64 i, .string s] _ _ HZ.out rfl
  change bodyPost _ _ _ _ _ (setAll w1 w.heap.size 0 [.int .i64 i, .string s])
  generalize setAll w1 w.heap.size 0 [.int .i64 i, .string s] = wf at *
  refine bodyPost_ret (v := .tuple #[Dv i s, .int .i64 q]) ?_ rfl ⟨by first | rfl | rw [HX.out], hW⟩
  simp [results, Try.results11, go_sem, hA.cell 0 _ rfl, hA.cell 1 _ rfl]

/-- Are these bytes an inode's? -/
def inoIs (zs : List Int) : Prop := inoBad (inoOf zs) = false ∧ inoF (inoOf zs) = true ∧ layB 32 (inoL (inoOf zs)) = zs

theorem ino32 (X : Nat → Int) : ∀ z ∈ layB 32 (inoL X), 0 ≤ z ∧ z ≤ 255 := layB_byte _ _ (inoL_byts X)

/-- **codec.Uninode**, of an inode's bytes. -/
theorem uninode_yes (a : Option Addr) (len cap : Nat) (zs : List Int) (w : World) (hr : Row w.heap.size w a len cap zs) (h : inoIs zs) :
    Calls Try.prog 7 #[.slice a len cap] w fun e w' => e = .returned (.tuple #[Iv (inoOf zs), .int .i64 0]) ∧ Below w.heap.size w w' := by
  refine uninode_w (inoOf zs) 0 a len cap w fun u hb => ?_
  have hru := hr.below hb hb.size
  refine readI_same (inoOf zs) a len cap u zs zs hru.has hr.2.2.2.1 hr.2.2.2.1 (by simp) (fun u2 hb2 => takeInode_any a len cap zs u2 (hru.below hb2 hb2.size)) fun u2 hb2 => ?_
  refine (inode_ok (inoOf zs) u2 h.1 h.2.1).mono ?_
  rintro e w' ⟨a', c', rfl, hh, hb⟩
  have h1 := hh.out.1
  rw [h.2.2] at h1
  exact ⟨_, _, _, rfl, h1, hb⟩

/-- **codec.Uninode**, of other bytes. -/
theorem uninode_no (a : Option Addr) (len cap : Nat) (zs : List Int) (w : World) (hr : Row w.heap.size w a len cap zs) (h : ¬ inoIs zs) :
    Calls Try.prog 7 #[.slice a len cap] w fun e w' => e = .returned (.tuple #[Iv zeroX, .int .i64 4]) ∧ Below w.heap.size w w' := by
  refine uninode_w zeroX 4 a len cap w fun u hb => ?_
  have hru := hr.below hb hb.size
  have HT : Hid (∀ u2, Below u.heap.size u u2 → Calls Try.prog 23 #[.slice a len cap] u2 fun e w' => e = .returned (Iv (inoOf zs)) ∧ Below u2.heap.size u2 w') := fun u2 hb2 => takeInode_any a len cap zs u2 (hru.below hb2 hb2.size)
  by_cases hB : inoBad (inoOf zs) = true
  · exact readI_err (inoOf zs) a len cap 4 u rfl HT fun u2 hb2 => inode_bad (inoOf zs) u2 hB
  · have hB : inoBad (inoOf zs) = false := by simpa using hB
    by_cases hF : inoF (inoOf zs) = true
    · have he : layB 32 (inoL (inoOf zs)) ≠ zs := fun e => h ⟨hB, hF, e⟩
      refine readI_other (inoOf zs) a len cap u (layB 32 (inoL (inoOf zs))) zs hru.has hr.2.2.2.1 (ino32 _) (decide_eq_false he) HT fun u2 hb2 => ?_
      refine (inode_ok (inoOf zs) u2 hB hF).mono ?_
      rintro e w' ⟨a', c', rfl, hh, hb⟩
      exact ⟨_, _, _, rfl, hh.out.1, hb⟩
    · exact readI_err (inoOf zs) a len cap 3 u rfl HT fun u2 hb2 => inode_value (inoOf zs) u2 hB (by simpa using hF)

/-- What is found in bytes as a name in a directory. -/
def dirI (zs : List Int) : Int := getVal zs 0 2
def dirS (zs : List Int) : ByteArray := textVal zs 2 13

def dirIs (zs : List Int) : Prop := dirE (dirI zs) (dirS zs) = 0 ∧ layB 16 (dirL (dirI zs) (dirS zs)) = zs

theorem size_strOf (zs : List Int) : (strOfNums zs).size = zs.length := by simp [strOfNums, ByteArray.size]

theorem textVal_size (zs : List Int) (at' n : Int) : (textVal zs at' n).size ≤ n.toNat := by
  unfold textVal
  split
  · rw [size_strOf, List.length_take]
    have : (partOf zs at' n).length ≤ n.toNat := by unfold partOf; rw [List.length_take]; omega
    omega
  · rw [size_strOf]; simp

theorem dir16 (i : Int) (s : ByteArray) : ∀ z ∈ layB 16 (dirL i s), 0 ≤ z ∧ z ≤ 255 := layB_byte _ _ (dirL_byts i s)

/-- **codec.Undirent**, of the bytes of a name. -/
theorem undirent_yes (a : Option Addr) (len cap : Nat) (zs : List Int) (w : World) (hr : Row w.heap.size w a len cap zs) (h : dirIs zs) :
    Calls Try.prog 11 #[.slice a len cap] w fun e w' => e = .returned (.tuple #[Dv (dirI zs) (dirS zs), .int .i64 0]) ∧ Below w.heap.size w w' := by
  refine undirent_w (dirI zs) (dirS zs) 0 a len cap w fun u hb => ?_
  have hru := hr.below hb hb.size
  refine readD_same (dirI zs) (dirS zs) a len cap u zs zs hru.has hr.2.2.2.1 hr.2.2.2.1 (by simp) (fun u2 hb2 => takeDirent_any a len cap zs u2 (hru.below hb2 hb2.size)) fun u2 hb2 => ?_
  refine (dirent_ok (dirI zs) (dirS zs) u2 h.1).mono ?_
  rintro e w' ⟨a', c', rfl, hh, hb⟩
  have h1 := hh.out.1
  rw [h.2] at h1
  exact ⟨_, _, _, rfl, h1, hb⟩

/-- **codec.Undirent**, of other bytes. -/
theorem undirent_no (a : Option Addr) (len cap : Nat) (zs : List Int) (w : World) (hr : Row w.heap.size w a len cap zs) (h : ¬ dirIs zs) :
    Calls Try.prog 11 #[.slice a len cap] w fun e w' => e = .returned (.tuple #[.agg #[.int .i64 0, .string ⟨#[]⟩], .int .i64 4]) ∧ Below w.heap.size w w' := by
  refine undirent_w 0 ⟨#[]⟩ 4 a len cap w fun u hb => ?_
  have hru := hr.below hb hb.size
  have HT : Hid (∀ u2, Below u.heap.size u u2 → Calls Try.prog 27 #[.slice a len cap] u2 fun e w' => e = .returned (Dv (dirI zs) (dirS zs)) ∧ Below u2.heap.size u2 w') := fun u2 hb2 => takeDirent_any a len cap zs u2 (hru.below hb2 hb2.size)
  by_cases hE : dirE (dirI zs) (dirS zs) = 0
  · have he : layB 16 (dirL (dirI zs) (dirS zs)) ≠ zs := fun e => h ⟨hE, e⟩
    refine readD_other (dirI zs) (dirS zs) a len cap u (layB 16 (dirL (dirI zs) (dirS zs))) zs hru.has hr.2.2.2.1 (dir16 _ _) (decide_eq_false he) HT fun u2 hb2 => ?_
    refine (dirent_ok (dirI zs) (dirS zs) u2 hE).mono ?_
    rintro e w' ⟨a', c', rfl, hh, hb⟩
    exact ⟨_, _, _, rfl, hh.out.1, hb⟩
  · have hs : (dirS zs).size ≤ 9223372036854775807 := by
      have := textVal_size zs 2 13
      unfold dirS
      omega
    exact readD_err (dirI zs) (dirS zs) a len cap (dirE (dirI zs) (dirS zs)) u (by simpa using hE) HT fun u2 hb2 => dirent_err (dirI zs) (dirS zs) u2 hs hE

end Go.Proofs.Ytmdkcoenjadieaa
