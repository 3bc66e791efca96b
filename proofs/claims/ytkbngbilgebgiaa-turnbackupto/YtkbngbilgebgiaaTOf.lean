/- The spectrum of bytes. -/
import Derived.Test.YtkbngbilgebgiaaTSpec
import Derived.Test.YtkbngbilgebgiaaGOpen
namespace Go.Proofs.Ytkbngbilgebgiaa
open Go.RowKit Go.Shelf
set_option linter.unusedVariables false

/-- The sums of the first q bytes: number r. -/
def sm (zs : List Int) : Nat → Nat → Int
  | 0, _ => 0
  | q + 1, r => sm zs q r + if q % 4 = r then zs[q]?.getD 0 else 0

theorem byte_get (zs : List Int) (hby : ∀ z ∈ zs, 0 ≤ z ∧ z ≤ 255) (q : Nat) : 0 ≤ zs[q]?.getD 0 ∧ zs[q]?.getD 0 ≤ 255 := by
  by_cases h : q < zs.length
  · rw [List.getElem?_eq_getElem h]; exact hby _ (List.getElem_mem h)
  · rw [List.getElem?_eq_none (by omega)]; simp

theorem sm_bd (zs : List Int) (hby : ∀ z ∈ zs, 0 ≤ z ∧ z ≤ 255) (q r : Nat) : 0 ≤ sm zs q r ∧ sm zs q r ≤ 255 * (q : Int) := by
  induction q with
  | zero => simp [sm]
  | succ q ih =>
    have := byte_get zs hby q
    simp only [sm]
    split <;> push_cast <;> omega

theorem sm_next (zs : List Int) (q : Nat) : ∀ j, j < 4 → sm zs (q + 1) j = upd (sm zs q) (q % 4) (sm zs q (q % 4) + zs[q]?.getD 0) j := by
  intro j hj
  by_cases h : j = q % 4
  · subst h; simp [upd, sm]
  · have h' : ¬ q % 4 = j := by omega
    simp [upd, sm, h, h']

theorem ints_upd (S : Nat → Int) (k : Nat) (z : Int) : upd (ints S) k (.int .i64 z) = ints (upd S k z) := by
  funext j; simp only [upd, ints]; split <;> rfl

theorem ints_congr {S T : Nat → Int} (h : ∀ j, j < 4 → S j = T j) {u : World} {g : Nat} {t : TypeId} (hR : R4 u g t (ints S)) : R4 u g t (ints T) := by
  unfold R4 ints at *
  rw [hR, h 0 (by omega), h 1 (by omega), h 2 (by omega), h 3 (by omega)]

theorem Has.below {w w' : World} {a : Option Addr} {len : Nat} {zs : List Int} (h : Has w a len zs) (hb : Below w.heap.size w w') : Has w' a len zs := by
  refine ⟨h.1, fun hp => ?_⟩
  obtain ⟨b, off, e, hc⟩ := h.2 hp
  exact ⟨b, off, e, fun j hj => (hb.cell (cell_block_lt (hc j hj))).trans (hc j hj)⟩

theorem of_any (a : Option Addr) (len cap : Nat) (zs : List Int) (w : World) (hH : Has w a len zs) (hby : ∀ z ∈ zs, 0 ≤ z ∧ z ≤ 255) (hl : len ≤ 1099511627776) :
    Calls Try.prog 8 #[.slice a len cap] w fun e w' => ∃ V, e = .returned (.agg #[V 0, V 1, V 2, V 3]) ∧ C4 V (sre (sm zs len)) (sim (sm zs len)) ∧ Below w.heap.size w w' := by
  have HH : Hid (Has w a len zs ∧ (∀ z ∈ zs, 0 ≤ z ∧ z ≤ 255) ∧ len ≤ 1099511627776) := ⟨hH, hby, hl⟩
  clear hH hby hl
  go_enter Try.func8, Try.ntmps8
  go_wp2
  go_loopw [8] (fun i wr => ∃ (q : Nat), q ≤ len ∧ i = .int .i64 (q : Int) ∧ Hid (R4 wr w.heap.size 26 zeros ∧ R4 wr (w.heap.size + 1) 37 (ints (sm zs q)) ∧ Below w.heap.size w wr)) (fun i _ => len - (intOf i).toNat)
  case atStart =>
    refine ⟨0, by omega, rfl, hide ⟨?_, ?_, ?_⟩⟩
    · have := (R4.new w 26 zeros).alloc (Obj.cells #[ints (sm zs 0) 0, ints (sm zs 0) 1, ints (sm zs 0) 2, ints (sm zs 0) 3] 37)
      simpa [zeros, ints, sm] using this
    · have := R4.new (w.alloc (Obj.cells #[zeros 0, zeros 1, zeros 2, zeros 3] 26)) 37 (ints (sm zs 0))
      simpa [zeros, ints, sm] using this
    · exact ((Below.refl _ _).alloc (Nat.le_refl _) _).alloc (by simp) _
  case round =>
    obtain ⟨q, hq, rfl, hB⟩ := hrel
    by_cases hlt : q < len
    · have hl := (unhide HH).2.2
      have hz := byte_get zs (unhide HH).2.1 q
      have hc : ∃ b off, a = some ⟨b, off, none⟩ ∧ wr.cell? ⟨b, off + q, none⟩ = some (.int .u8 (zs[q]?.getD 0)) := by
        obtain ⟨b, off, e, hc⟩ := ((unhide HH).1.below (unhide hB).2.2).2 (by omega)
        exact ⟨b, off, e, hc q hlt⟩
      obtain ⟨b, off, rfl, hc⟩ := hc
      have hm : bits .and .i64 (q : Int) 3 = ((q % 4 : Nat) : Int) := by rw [i64_and3]; omega
      have hs := sm_bd zs (unhide HH).2.1 q (q % 4)
      have c1 := (unhide hB).2.1.cell (q % 4) (by omega)
      have c2 := (unhide hB).2.1.free (q % 4)
      have HS : Hid (R4 (wr.setCell ⟨w.heap.size + 1, q % 4, none⟩ (.int .i64 (sm zs q (q % 4) + zs[q]?.getD 0))) (w.heap.size + 1) 37 (ints (sm zs (q + 1)))) := by
        have := (unhide hB).2.1.set (q % 4) (by omega) (.int .i64 (sm zs q (q % 4) + zs[q]?.getD 0))
        rw [ints_upd] at this
        exact ints_congr (fun j hj => (sm_next zs q j hj).symm) this
      have i1 : ((q % 4 : Nat) : Int) < 4 := by omega
      unfold ints at c1
      generalize zs[q]?.getD 0 = z at *
      generalize sm zs q (q % 4) = y at *
      generalize q % 4 = m at *
      have HB : Hid ((0 ≤ z ∧ z ≤ 255) ∧ 0 ≤ y ∧ y ≤ 562949953421312) := ⟨hz, by omega, by omega⟩
      clear hs hz
      go_wp2
      have ew : wrap64 (y + wrap64 z) = y + z := by
        have hz := unhide HB
        have h1 : wrap64 z = z := by simp only [wrap64]; omega
        rw [h1]; simp only [wrap64]; omega
      rw [ew]
      refine ⟨⟨q + 1, by omega, by go_num, hide ⟨(unhide hB).1.other _ _ (by simp), unhide HS, (unhide hB).2.2.setCell (by simp) _⟩⟩, by simp [intOf]; omega⟩
    · obtain rfl : q = len := by omega
      clear hlt hq
      have hbd : Hid (∀ j, j < 4 → -1125899906842624 ≤ sm zs q j ∧ sm zs q j ≤ 1125899906842624) := by
        intro j hj
        have h1 := sm_bd zs (unhide HH).2.1 q j
        have h2 := (unhide HH).2.2
        omega
      have e0 := (unhide hB).2.1.cell 0 (by omega)
      have e1 := (unhide hB).2.1.cell 1 (by omega)
      have e2 := (unhide hB).2.1.cell 2 (by omega)
      have e3 := (unhide hB).2.1.cell 3 (by omega)
      obtain ⟨S, hE⟩ : ∃ S, sm zs q = S := ⟨_, rfl⟩
      rw [hE] at hbd e0 e1 e2 e3
      have HE : Hid (sm zs q = S) := hE
      clear hE
      go_wp2_with fail
      go_at_call 17
      refine (spectrum_any S _ (unhide hbd)).mono ?_
      rintro e w' ⟨V, rfl, hV, hb⟩
      have HB : Hid (R4 w' w.heap.size 26 zeros ∧ Below w.heap.size w w') := ⟨(unhide hB).1.below hb (unhide hB).1.lt, (unhide hB).2.2.trans (hb.mono (unhide hB).2.2.size)⟩
      have HC : Hid (C4 V (sre S) (sim S)) := hV
      clear e0 e1 e2 e3 hV hb
      have f0 := (unhide HB).1.free 0
      have f1 := (unhide HB).1.free 1
      have f2 := (unhide HB).1.free 2
      have f3 := (unhide HB).1.free 3
      have c0 := (unhide HB).1.cell 0 (by omega)
      have c1 := (unhide HB).1.cell 1 (by omega)
      have c2 := (unhide HB).1.cell 2 (by omega)
      have c3 := (unhide HB).1.cell 3 (by omega)
      have s0 := store_v (unhide HC 0 (by omega))
      have s1 := store_v (unhide HC 1 (by omega))
      have s2 := store_v (unhide HC 2 (by omega))
      have s3 := store_v (unhide HC 3 (by omega))
      go_wp2
      have hR := (unhide HB).1.all V
      have hW : Below w.heap.size w ((((w'.setCell ⟨w.heap.size, 0, none⟩ (V 0)).setCell ⟨w.heap.size, 1, none⟩ (V 1)).setCell ⟨w.heap.size, 2, none⟩ (V 2)).setCell ⟨w.heap.size, 3, none⟩ (V 3)) :=
        ((((unhide HB).2.setCell (by simp) _).setCell (by simp) _).setCell (by simp) _).setCell (by simp) _
      clear f0 f1 f2 f3 c0 c1 c2 c3 s0 s1 s2 s3
      generalize ((((w'.setCell ⟨w.heap.size, 0, none⟩ (V 0)).setCell ⟨w.heap.size, 1, none⟩ (V 1)).setCell ⟨w.heap.size, 2, none⟩ (V 2)).setCell ⟨w.heap.size, 3, none⟩ (V 3)) = wf at *
      refine bodyPost_ret (v := .agg #[V 0, V 1, V 2, V 3]) ?_ rfl ⟨V, rfl, by rw [unhide HE]; exact unhide HC, hW⟩
      simp [results, Try.results8, go_sem, hR.cell 0 (by omega), hR.cell 1 (by omega), hR.cell 2 (by omega), hR.cell 3 (by omega)]
end Go.Proofs.Ytkbngbilgebgiaa
