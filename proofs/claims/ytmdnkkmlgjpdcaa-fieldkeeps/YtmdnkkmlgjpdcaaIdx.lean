/- The contract of strings.IndexByte at the byte 0. -/
import Derived.Test.YtmdnkkmlgjpdcaaSeek
import Derived.Lib.Bytealg
namespace Go.Proofs.Ytmdnkkmlgjpdcaa
open Go.RowKit Go.Shelf
set_option linter.unusedVariables false

/-- A text's bytes as numbers. -/
def byts (s : ByteArray) : List Int := s.data.toList.map (fun b => (b.toNat : Int))
theorem bsize (s : ByteArray) : s.data.toList.length = s.size := rfl
theorem byts_length (s : ByteArray) : (byts s).length = s.size := by rw [byts, List.length_map, bsize]
theorem byts_byte (s : ByteArray) : ∀ z ∈ byts s, 0 ≤ z ∧ z ≤ 255 := by
  intro z hz
  simp only [byts, List.mem_map] at hz
  obtain ⟨b, _, rfl⟩ := hz
  have := b.toNat_lt
  omega
theorem byts_get (s : ByteArray) (k : Nat) (h : k < s.size) : (byts s)[k]?.getD 0 = (s[k].toNat : Int) := by
  have h' : k < s.data.toList.length := by rw [bsize]; exact h
  simp only [byts, List.getElem?_map, List.getElem?_eq_getElem h', Option.map_some, Option.getD_some]
  rfl
theorem strOfNums_byts (s : ByteArray) : strOfNums (byts s) = s := by
  obtain ⟨⟨l⟩⟩ := s
  simp [strOfNums, byts]
  apply List.ext_getElem
  · simp
  · intro i h1 h2
    simp

theorem indexByte_lead (l : List UInt8) : Lib.indexByte l 0 = if lead isz (l.map (fun b => (b.toNat : Int))) < l.length then (lead isz (l.map (fun b => (b.toNat : Int))) : Int) else -1 := by
  induction l with
  | nil => simp [Lib.indexByte, lead]
  | cons b r ih =>
    simp only [Lib.indexByte, List.map_cons, lead, List.length_cons]
    have hb : (b == 0) = isz (b.toNat : Int) := by
      rw [Bool.eq_iff_iff]
      simp [isz, ← UInt8.toNat_inj]
    rw [hb, ih]
    by_cases h : isz (b.toNat : Int) = true
    · rw [if_pos h, if_pos h, if_pos (by omega)]; rfl
    · rw [if_neg h, if_neg h]
      by_cases h2 : lead isz (r.map (fun b => (b.toNat : Int))) < r.length
      · rw [if_pos h2, if_neg (by simp), if_pos (by omega)]; omega
      · rw [if_neg h2, if_pos (by decide), if_neg (by omega)]

/-- Has the text a byte 0? -/
def hasZ (s : ByteArray) : Bool := decide (lead isz (byts s) < s.size)

theorem idx_sign (s : ByteArray) : decide (0 ≤ Lib.indexByte s.data.toList 0) = hasZ s := by
  rw [indexByte_lead]
  unfold hasZ byts
  rw [bsize, Bool.eq_iff_iff]
  by_cases h : lead isz (s.data.toList.map (fun b => (b.toNat : Int))) < s.size
  · rw [if_pos h]; simp; exact h
  · rw [if_neg h]; simp; omega

set_option maxRecDepth 100000 in
set_option maxHeartbeats 1000000 in
theorem idx36 (s : ByteArray) (w : World) : Calls Try.prog 36 #[.string s, .int .u8 0] w fun e w' => e = .returned (.int .i64 (Lib.indexByte s.data.toList 0)) ∧ w = w' := by
  go_enter Try.func36, Try.ntmps36
  go_wp2
  rw [run_callFunc_extern Try.func37 (by kernel_rfl) (by kernel_rfl) (by kernel_rfl) (e := Extern.BytealgIndexByte.indexByte) (by kernel_rfl), Lib.run_indexByteString]
  simp only [Result.andThen]
  rw [Oper.upon_value]
  go_wp2
  go_ret
  exact ⟨rfl, rfl⟩

theorem idx_any (s : ByteArray) (w : World) : Calls Try.prog 32 #[.string s, .int .u8 0] w fun e w' => e = .returned (.int .i64 (Lib.indexByte s.data.toList 0)) ∧ w = w' := by
  go_enter Try.func32, Try.ntmps32
  go_wp2_with (go_at_call 36; refine (idx36 _ _).mono ?_; rintro e w' ⟨rfl, rfl⟩)
  go_ret
  exact ⟨rfl, rfl⟩

end Go.Proofs.Ytmdnkkmlgjpdcaa
