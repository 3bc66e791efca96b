/- strings.TrimPrefix, Cut, Clone, Compare of this program. -/
import Derived.Test.YtknmgefpjdfenaaGreatTrVBase
import Derived.Shelf.Lay
import Derived.Shelf.Strings.Prefix
import Derived.Shelf.Strings.Search2
import Derived.Shelf.Small.Strs
import Derived.Shelf.Strconv.Clone
namespace Go.Proofs.YtknmgefpjdfenaaGreat
open Go.RowKit Go.Shelf
set_option linter.unusedVariables false
set_option maxRecDepth 100000

shelf_lay Lays.n101 Nm 101 at Tryz as Tryz.trimL

shelf_lay Lays.n219 Nm 219 at Tryz as Tryz.indexL

shelf_lay LaysM.n316 Nm 316 at Tryz as Tryz.cloneL

theorem trimP (p : List UInt8) : Lib.trimPrefix p [47] = drop1 p := by
  unfold Lib.trimPrefix Lib.hasPrefix
  cases p with
  | nil => rfl
  | cons b l =>
    show _ = if b = 47 then l else b :: l
    by_cases hb : b = 47
    · subst hb; simp [List.isPrefixOf]
    · have : ((47 : UInt8) == b) = false := by simpa using fun e => hb e.symm
      simp [List.isPrefixOf, this, hb]

theorem trim_any (p : List UInt8) (w : World) :
    Calls Tryz.prog 129 #[.string (St p), .string ⟨#[47]⟩] w fun e w' => e = .returned (.string (St (drop1 p))) ∧ w' = w := by
  have h := Any.strings_TrimPrefix Tryz.trimL (St p) ⟨#[47]⟩ w
  have e : Lib.trimPrefix (St p).data.toList (⟨#[47]⟩ : ByteArray).data.toList = drop1 p := by rw [data_St]; exact trimP p
  rw [e] at h
  exact h

theorem index_cut (l : List UInt8) : (Lib.indexByte l 47 = -1 ∧ cutN l = (l, [])) ∨ ∃ i : Nat, Lib.indexByte l 47 = i ∧ i < l.length ∧ cutN l = (l.take i, l.drop (i + 1)) := by
  induction l with
  | nil => left; exact ⟨rfl, rfl⟩
  | cons b l ih =>
    unfold Lib.indexByte
    rw [cutN_cons]
    by_cases hb : b = 47
    · right; subst hb; exact ⟨0, by simp, by simp, by simp⟩
    · have hb' : (b == 47) = false := by simpa using hb
      rw [hb', if_neg hb]
      rcases ih with ⟨h1, h2⟩ | ⟨i, h1, h2, h3⟩
      · left
        rw [h1, h2]
        exact ⟨by simp, rfl⟩
      · right
        refine ⟨i + 1, ?_, by simp; omega, ?_⟩
        · rw [h1]
          have : ((i : Int) == -1) = false := by simp
          rw [this]; simp
        · rw [h3]; simp

theorem St_take (l : List UInt8) (i : Nat) (h : i ≤ l.length) : (St l).extract 0 i = St (l.take i) := by
  apply ByteArray.ext
  simp [St, ByteArray.data_extract]

theorem St_drop (l : List UInt8) (i : Nat) (h : i ≤ l.length) : (St l).extract i l.length = St (l.drop i) := by
  apply ByteArray.ext
  simp only [St, ByteArray.data_extract, List.extract_toArray]
  rw [List.extract_eq_drop_take', List.take_of_length_le (by simp)]

theorem indexS_any (l : List UInt8) (w : World) :
    Calls Tryz.prog 172 #[.string (St l), .string ⟨#[47]⟩] w fun e w' => e = .returned (.int .i64 (Lib.indexByte l 47)) ∧ w' = w := by
  have h := Any.stringslite_Index_one Tryz.indexL (St l) 47 w
  rw [data_St] at h
  exact h

set_option maxHeartbeats 1000000 in
theorem clone_any (l : List UInt8) (w : World) (hl : l.length ≤ 140737488355328) :
    Calls Tryz.prog 62 #[.string (St l)] w fun e w' => e = .returned (.string (St l)) ∧ Below w.heap.size w w' := by
  have K := hide (Any.stringslite_Clone Tryz.cloneL (St l) w (by rw [St_size]; omega))
  generalize St l = s at *
  go_enter Tryz.func62, Tryz.ntmps62
  go_wp2_with fail
  refine (unhide K).mono ?_
  rintro e w1 ⟨rfl, hb⟩
  have HB := hide hb
  clear K hb
  go_wp2_with fail
  go_ret
  exact ⟨rfl, HB.out⟩

end Go.Proofs.YtknmgefpjdfenaaGreat
