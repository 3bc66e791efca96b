/- The order of texts by their names. Nothing of a program. -/
import Derived.Test.YtknmgefpjdfenaaGreatSfJ7
import Derived.Lib.Bytealg
import Derived.Lib.SlicesCompact
namespace Go.Proofs.YtknmgefpjdfenaaGreat
set_option maxRecDepth 100000
set_option maxHeartbeats 8000000
set_option linter.unusedVariables false

theorem cb_neg (a b:List UInt8):Lib.compareBytes a b=- Lib.compareBytes b a:=by
 induction a generalizing b with
 | nil=>cases b <;> rfl
 | cons x a ih =>
  cases b with
  | nil=>rfl
  | cons y b =>
   unfold Lib.compareBytes
   by_cases h1:x < y
   ·rw [if_pos h1,if_neg (UInt8.lt_asymm h1),if_pos h1]
   ·by_cases h2:y < x
    ·rw [if_neg h1,if_pos h2,if_pos h2]; rfl
    ·rw [if_neg h1,if_neg h2,if_neg h2,if_neg h1,ih]

theorem cb_zero {a b:List UInt8} (h:Lib.compareBytes a b=0):a=b:=by
 induction a generalizing b with
 | nil=>cases b with
  | nil=>rfl
  | cons y b=>simp [Lib.compareBytes] at h
 | cons x a ih =>
  cases b with
  | nil=>simp [Lib.compareBytes] at h
  | cons y b =>
   unfold Lib.compareBytes at h
   by_cases h1:x < y
   ·rw [if_pos h1] at h; omega
   ·by_cases h2:y < x
    ·rw [if_neg h1,if_pos h2] at h; omega
    ·rw [if_neg h1,if_neg h2] at h
     have:x=y:=UInt8.le_antisymm (UInt8.not_lt.1 h2) (UInt8.not_lt.1 h1)
     rw [this,ih h]

theorem cb_trans {a b c:List UInt8} (h:Lib.compareBytes a b < 0) (k:Lib.compareBytes b c < 0):Lib.compareBytes a c < 0:=by
 induction a generalizing b c with
 | nil =>
  cases c with
  | nil=>cases b with
   | nil=>exact h
   | cons y b=>simp [Lib.compareBytes] at k
  | cons z c=>simp [Lib.compareBytes]
 | cons x a ih =>
  cases b with
  | nil=>simp [Lib.compareBytes] at h
  | cons y b =>
   cases c with
   | nil=>simp [Lib.compareBytes] at k
   | cons z c =>
    unfold Lib.compareBytes at h k ⊢
    by_cases h1:x < y
    ·by_cases k1:y < z
     ·rw [if_pos (UInt8.lt_trans h1 k1)]; omega
     ·by_cases k2:z < y
      ·rw [if_neg k1,if_pos k2] at k; omega
      ·have:y=z:=UInt8.le_antisymm (UInt8.not_lt.1 k2) (UInt8.not_lt.1 k1)
       subst this
       rw [if_pos h1]; omega
    ·by_cases h2:y < x
     ·rw [if_neg h1,if_pos h2] at h; omega
     ·have:x=y:=UInt8.le_antisymm (UInt8.not_lt.1 h2) (UInt8.not_lt.1 h1)
      subst this
      rw [if_neg h1,if_neg h1] at h
      by_cases k1:x < z
      ·rw [if_pos k1]; omega
      ·by_cases k2:z < x
       ·rw [if_neg k1,if_pos k2] at k; omega
       ·rw [if_neg k1,if_neg k2] at k ⊢
        exact ih h k

end Go.Proofs.YtknmgefpjdfenaaGreat
