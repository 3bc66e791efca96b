/- DeviceScripts: Write of both devices. -/
import Derived.Test.YtikpmchjlpobdaaDScA
import Derived.Test.YtikpmchjlpobdaaDRWrite3
namespace Go.Proofs.Ytikpmchjlpobdaa
open Go.RowKit Go.Shelf
set_option linter.unusedVariables false

theorem s_write {B : Nat} {w : World} {gd gw : Nat} {u : World} {S T : Nat → Prop} {D : Dev} (h : SJ B w gd gw u S T D) {go : Nat} {f : Nat → Value} (hg : u.rowIs go 34 4 f) (hS : ¬ S go) (b : Int) (a : Option Addr) (len cap : Nat) (zs : List Int) (hr : Row B w a len cap zs) :
    Calls Try.prog 15 #[.pointer (some ⟨gd, 0, none⟩), .int .i64 b, .slice a len cap] u (SA B w gd gw go f 16 #[.pointer (some ⟨gw, 0, none⟩), .int .i64 b, .slice a len cap]) := by
  have hru : Row u.heap.size u a len cap zs := (hr.below h.bel h.siz)
  have o1 : Out S len a := hr.out h.low.1
  have o2 : Out T len a := hr.out h.low.2
  by_cases h0 : refE D b len = 0
  · obtain ⟨i, rfl, hi, rfl⟩ := refE_in h0
    by_cases hb : D.burnt
    · refine (write_dies gd i a cap S D u h.dd hi hb).mono ?_
      rintro e u1 ⟨rfl, y1, y2⟩
      refine ⟨7, rfl, hg.of_block (y2.keep hg.lt hS).1, (rwrite_dies gw i a cap T D u1 (h.rr1 y2) hi hb).mono ?_⟩
      rintro e u2 ⟨rfl, z1, z2⟩
      exact ⟨rfl, _, S, T, h.both y1 y2 z1 z2⟩
    · by_cases hy : (D.Y i).length < 400
      · refine (write_ok gd i a cap zs S D u h.dd hi hb hru o1 hy).mono ?_
        rintro e u1 ⟨rfl, S1, y1, y2⟩
        refine ⟨0, rfl, hg.of_block (y2.keep hg.lt hS).1, (rwrite_ok gw i a cap zs T D u1 (h.rr1 y2) hi hb (hru.nx y2 o1) o2 hy).mono ?_⟩
        rintro e u2 ⟨rfl, T1, z1, z2⟩
        exact ⟨rfl, _, S1, T1, h.both y1 y2 z1 z2⟩
      · have hy4 : (D.Y i).length = 400 := by have := h.dd.ok.y i hi; omega
        refine (write_full gd i a cap zs S D u h.dd hi hb hru o1 hy4).mono ?_
        rintro e u1 ⟨rfl, S1, y1, y2⟩
        have siz1 : B ≤ u1.heap.size := Nat.le_trans h.siz y2.fr.size
        refine ⟨0, rfl, hg.of_block (y2.keep hg.lt hS).1, (rwrite_full gw i a cap zs T D u1 (h.rr1 y2) hi hb (hru.nx y2 o1) o2 (fun S' w' hx => hr.out (hx.base h.low.2 siz1)) hy4).mono ?_⟩
        rintro e u2 ⟨rfl, T1, z1, z2⟩
        exact ⟨rfl, _, S1, T1, h.both y1 y2 z1 z2⟩
  · refine (write_bad gd b a len cap S D u h.dd h0).mono ?_
    rintro e u1 ⟨rfl, rfl⟩
    refine ⟨_, rfl, hg, (rwrite_bad gw b a len cap T D u h.rr h0).mono ?_⟩
    rintro e u2 ⟨rfl, rfl⟩
    exact ⟨rfl, D, S, T, h⟩

end Go.Proofs.Ytikpmchjlpobdaa
