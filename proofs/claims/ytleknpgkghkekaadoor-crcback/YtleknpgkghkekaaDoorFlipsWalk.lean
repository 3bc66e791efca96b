/- CrcFlips' walk. -/
import Derived.Test.YtleknpgkghkekaaDoorGApp
import Derived.Test.YtleknpgkghkekaaDoorGOpen
import Derived.Test.YtleknpgkghkekaaDoorRefSum
import Derived.Test.YtleknpgkghkekaaDoorJoinsWalk
import Derived.BigRegion
import Derived.Deep.DeepCutAuto
namespace Go.Proofs.YtleknpgkghkekaaDoor
open Go.RowKit Go.Shelf
set_option linter.unusedVariables false

/-- A memory like w's, but for one block more. -/
def Near (w w' : World) : Prop := w'.heap = w.heap ∨ ∃ o, w'.heap = w.heap.push o

theorem Near.cell {w w' : World} (h : Near w w') {x : Addr} {v : Value} (hc : w.cell? x = some v) : w'.cell? x = some v := by
  rcases h with h | ⟨o, h⟩
  · simpa [World.cell?, h] using hc
  · have hlt := cell_block_lt hc
    have e : w'.heap[x.block]? = w.heap[x.block]? := by rw [h, Array.getElem?_push]; simp; omega
    simpa [World.cell?, e] using hc

theorem Near.has {w w' : World} (h : Near w w') {a : Option Addr} {n : Nat} {zs : List Int} (hh : Has w a n zs) : Has w' a n zs := by
  refine ⟨hh.1, fun hp => ?_⟩
  obtain ⟨b, off, e, hc⟩ := hh.2 hp
  exact ⟨b, off, e, fun j hj => h.cell (hc j hj)⟩

theorem Near.tab {w w' : World} (h : Near w w') (hT : Tab w) : Tab w' := fun k hk => h.cell (hT k hk)

theorem make_block0 (w : World) (n : Nat) : Block (w.alloc (.cells (madeCells #[.int .u8 0] n) 5)) w.heap.size (List.replicate n 0) := by
  show (w.alloc _).heap[w.heap.size]? = _
  rw [World.alloc_heap_new, List.map_replicate, ← toList_madeCells_one, Array.toArray_toList]

theorem put_zero (n : Nat) (D : List Int) (h : D.length = n) : put (List.replicate n 0) 0 (D.take n) = D := by
  rw [List.take_of_length_le (by omega)]
  simp [put, h]

theorem xorB_get (xs ys : List Int) (k : Nat) (h1 : k < xs.length) (h2 : k < ys.length) : (xorB xs ys)[k]?.getD 0 = (((xs[k]?.getD 0).toNat ^^^ (ys[k]?.getD 0).toNat : Nat) : Int) := by
  have hl : k < (xorB xs ys).length := by simp [xorB]; omega
  rw [List.getElem?_eq_getElem hl, List.getElem?_eq_getElem h1, List.getElem?_eq_getElem h2]
  simp [xorB]

theorem xor_byte {x y : Int} (hx : 0 ≤ x ∧ x ≤ 255) (hy : 0 ≤ y ∧ y ≤ 255) : bits .xor .u8 x y = ((x.toNat ^^^ y.toNat : Nat) : Int) := u8_xor x y (by omega) (by omega) (by omega) (by omega)

theorem xor_byte_range {x y : Int} (hx : 0 ≤ x ∧ x ≤ 255) (hy : 0 ≤ y ∧ y ≤ 255) : x.toNat ^^^ y.toNat < 256 := Nat.xor_lt_two_pow (n := 8) (by omega) (by omega)

theorem getD_byte {zs : List Int} (h : Byts zs) {k : Nat} (hk : k < zs.length) : 0 ≤ zs[k]?.getD 0 ∧ zs[k]?.getD 0 ≤ 255 := h _ (by rw [List.getElem?_eq_getElem hk]; exact List.getElem_mem _)

theorem own_none1 (w : World) : Own w.heap.size (w.alloc (.cells #[] 5)) (some ⟨w.heap.size, 0, none⟩) 0 0 [] :=
  ⟨rfl, Nat.le_refl _, by unfold maxLen; omega, .inr ⟨w.heap.size, #[], rfl, Nat.le_refl _, World.alloc_heap_new w _, rfl, rfl⟩⟩

theorem flips_end {ax : Option Addr} {lx cx : Nat} {xs : List Int} {x : Int} {w wr : World} {q i0 : Nat} (HRX : Hid (Row w.heap.size w ax lx cx xs)) (HT : Hid (Tab w)) (hbr : Below w.heap.size w wr) (hlx : lx ≤ 140737488351232) (hi0 : i0 < lx) (hxl : xs.length = lx) (hx : 0 ≤ x ∧ x ≤ 255) (hx0 : ¬ x = 0) :
    ∃ g6 c6 w6 y, (∀ ty, (Builtin.append_ #[22, 22] ty #[.slice (some ⟨wr.heap.size + 1, 0, none⟩) 0 0, .slice ax lx cx]).run Tryd.prog ((wr.alloc (.cells (madeCells #[.int .u8 0] q) 5)).alloc (.cells #[] 5)).drew = .ok (.slice (some ⟨g6, 0, none⟩) lx c6) w6) ∧
          w6.cell? ⟨g6, i0, none⟩ = some (.int .u8 (xs[i0]?.getD 0)) ∧ w6.frozen? ⟨g6, i0, none⟩ = false ∧ bits .xor .u8 (xs[i0]?.getD 0) x = y ∧
          Hid (Calls Tryd.prog 12 #[.slice (some ⟨g6, 0, none⟩) lx c6] (w6.setCell ⟨g6, i0, none⟩ (.int .u8 y)) fun e w'' => e = .returned (.int .i64 ((sumS (xs.set i0 y) : Nat) : Int)) ∧ (w6.setCell ⟨g6, i0, none⟩ (.int .u8 y)) = w'') ∧
          Hid (Calls Tryd.prog 12 #[.slice ax lx cx] (w6.setCell ⟨g6, i0, none⟩ (.int .u8 y)) fun e w'' => e = .returned (.int .i64 ((sumS xs : Nat) : Int)) ∧ (w6.setCell ⟨g6, i0, none⟩ (.int .u8 y)) = w'') ∧
          sumS (xs.set i0 y) ≠ sumS xs ∧ Hid (Below w.heap.size w (w6.setCell ⟨g6, i0, none⟩ (.int .u8 y))) := by
  have hr := unhide HRX
  have hT := unhide HT
  have hz := hbr.size
  have hb5 : Below w.heap.size w ((wr.alloc (.cells (madeCells #[.int .u8 0] q) 5)).alloc (.cells #[] 5)).drew := ((hbr.alloc hz _).alloc (by simp; omega) _).drew
  have hown : Own (wr.heap.size + 1) ((wr.alloc (.cells (madeCells #[.int .u8 0] q) 5)).alloc (.cells #[] 5)).drew (some ⟨wr.heap.size + 1, 0, none⟩) 0 0 [] := by
    have h := own_none1 (wr.alloc (.cells (madeCells #[.int .u8 0] q) 5))
    rw [show (wr.alloc (.cells (madeCells #[.int .u8 0] q) 5)).heap.size = wr.heap.size + 1 by simp] at h
    exact h
  have hh : Has ((wr.alloc (.cells (madeCells #[.int .u8 0] q) 5)).alloc (.cells #[] 5)).drew ax lx xs := (hr.below hb5 hb5.size).has
  have hsz5 : ((wr.alloc (.cells (madeCells #[.int .u8 0] q) 5)).alloc (.cells #[] 5)).drew.heap.size = wr.heap.size + 2 := by
    show ((wr.alloc (.cells (madeCells #[.int .u8 0] q) 5)).alloc (.cells #[] 5)).heap.size = _
    simp
  generalize ((wr.alloc (.cells (madeCells #[.int .u8 0] q) 5)).alloc (.cells #[] 5)).drew = w5 at *
  obtain ⟨a6, c6, w6, r6, o6, _, b6⟩ := run_append_bytes hown (by omega) cx hh (by omega)
  rw [Nat.zero_add, List.nil_append] at o6
  rw [Nat.zero_add] at r6
  obtain ⟨g6, rfl, hg6, hc6, hf6⟩ := o6.cell hi0
  have hby := hr.byts
  have hxv := getD_byte hby (k := i0) (by omega)
  have hX := xor_byte hxv hx
  have hrg := xor_byte_range hxv hx
  have hyr : (0 : Int) ≤ (((xs[i0]?.getD 0).toNat ^^^ x.toNat : Nat) : Int) ∧ (((xs[i0]?.getD 0).toNat ^^^ x.toNat : Nat) : Int) ≤ 255 := by omega
  have hyne : (((xs[i0]?.getD 0).toNat ^^^ x.toNat : Nat) : Int) ≠ xs[i0]?.getD 0 := by
    intro h
    have h1 : (xs[i0]?.getD 0).toNat ^^^ x.toNat = (xs[i0]?.getD 0).toNat ^^^ 0 := by rw [Nat.xor_zero]; omega
    have := xor_cancel_left h1
    omega
  generalize (((xs[i0]?.getD 0).toNat ^^^ x.toNat : Nat) : Int) = y at *
  have o7 := o6.set i0 y
  have hb6 := hb5.trans (b6.mono (by omega))
  have hb7 : Below w.heap.size w (w6.setCell ⟨g6, i0, none⟩ (.int .u8 y)) := hb6.setCell (p := ⟨g6, i0, none⟩) (by show w.heap.size ≤ g6; omega) _
  have hT7 := hT.below hb7 (tab_size hT)
  have hbs : Byts (xs.set i0 y) := by
    intro z hz
    rcases List.mem_or_eq_of_mem_set hz with h | h
    · exact hby z h
    · subst h; exact hyr
  refine ⟨g6, c6, w6, y, r6, hc6, hf6, hX, ?_, ?_, sumS_turned xs hby i0 (by omega) y hyr hyne, hb7⟩
  · exact sum_any _ _ _ _ _ hT7 o7.has (by omega) hbs
  · exact sum_any _ _ _ _ _ hT7 (hr.below hb7 hb7.size).has (by omega) hby

set_option maxRecDepth 100000 in
set_option maxHeartbeats 4000000 in
theorem flips_walk (ax ay : Option Addr) (lx cx ly cy : Nat) (xs ys : List Int) (i x : Int) (w : World) (hrx : Row w.heap.size w ax lx cx xs) (hry : Row w.heap.size w ay ly cy ys) (hT : Tab w) (hx : 0 ≤ x ∧ x ≤ 255) :
    Calls Tryd.prog 6 #[.slice ax lx cx, .slice ay ly cy, .int .i64 i, .int .u8 x] w fun e w' => e = .returned (.bool true) ∧ Below w.heap.size w w' := by
  have hTs := tab_size hT
  have KW := hide (wakes_any w hT)
  have hlx := hrx.2.2.1.1
  have hly := hry.2.2.1.1
  have hlcx := hrx.2.1
  have hlcy := hry.2.1
  have hxl := hrx.1
  have hyl := hry.1
  have HRX := hide hrx
  have HRY := hide hry
  have HT := hide hT
  clear hrx hry hT
  by_cases hlt : ly < lx
  · have hdec : decide ((ly : Int) < (lx : Int)) = true := by simp; omega
    have hmk := run_make_row' (P := Tryd.prog) 22 5 (.int .u8 0) 1 Tryd.underlying22 info5 rfl .i64 .i64 ly (by omega) (by omega)
    have hxt : Byts (xs.take ly) := fun z hz => (unhide HRX).byts z (List.mem_of_mem_take hz)
    have hyt : Byts (ys.take ly) := fun z hz => (unhide HRY).byts z (List.mem_of_mem_take hz)
    have hDl : (xorB (xs.take ly) (ys.take ly)).length = ly := by simp [xorB]; omega
    have hDb := xorB_byte _ _ hxt hyt
    have hSX := sumS_xor (xs.take ly) (ys.take ly) hxt hyt ly (by simp; omega) (by simp; omega)
    have hb0 : Byts (List.replicate ly 0) := by intro z hz; rw [List.eq_of_mem_replicate hz]; omega
    generalize hD : xorB (xs.take ly) (ys.take ly) = D at *
    have HXT := hide hxt
    have HYT := hide hyt
    have HDB := hide hDb
    have HSX := hide hSX
    have HB0 := hide hb0
    have HDE := hide hD
    clear hxt hyt hDb hSX hb0 hD
    go_enter Tryd.func6, Tryd.ntmps6
    go_wp2_with (go_at_call 9; refine (unhide KW).mono ?_; rintro e w1 ⟨rfl, hb1⟩)
    go_loopw [11] (fun k wr => ∃ q : Nat, q ≤ ly ∧ k = .int .i64 (q : Int) ∧ Hid (Block wr w1.heap.size (put (List.replicate ly 0) 0 (D.take q)) ∧ Below w1.heap.size w1 wr)) (fun k _ => ly - (intOf k).toNat)
    case atStart => exact ⟨0, by omega, rfl, ⟨by rw [List.take_zero, put]; simpa using make_block0 w1 ly, (Below.refl _ _).alloc (Nat.le_refl _) _⟩⟩
    case round =>
      obtain ⟨q, hq, rfl, hQ⟩ := hrel
      by_cases hql : q < ly
      · have hb1r := Below.trans hb1 ((unhide hQ).2.mono hb1.size)
        obtain ⟨bx, ox, rfl, _, hcx⟩ := ((unhide HRX).below hb1r hb1r.size).2.2.2.2 (by omega)
        obtain ⟨by', oy, rfl, _, hcy⟩ := ((unhide HRY).below hb1r hb1r.size).2.2.2.2 (by omega)
        have h1 := hcx q (by omega)
        have h2 := hcy q (by omega)
        have hbx := getD_byte (unhide HRX).byts (k := q) (by omega)
        have hby := getD_byte (unhide HRY).byts (k := q) (by omega)
        have hg := (unhide hQ).1
        have hpl : (put (List.replicate ly 0) 0 (D.take q)).length = ly := by rw [length_put _ _ _ (by simp [hDl]; omega)]; simp
        have h3 := hg.cell (i := q) (by rw [hpl]; exact hql)
        have h4 := hg.free q
        obtain ⟨z, hz⟩ : ∃ z, (((xs[q]?.getD 0).toNat ^^^ (ys[q]?.getD 0).toNat : Nat) : Int) = z := ⟨_, rfl⟩
        have hX : bits .xor .u8 (xs[q]?.getD 0) (ys[q]?.getD 0) = z := by rw [← hz]; exact xor_byte hbx hby
        have hset : Hid (Block (wr.setCell ⟨w1.heap.size, q, none⟩ (.int .u8 z)) w1.heap.size (put (List.replicate ly 0) 0 (D.take (q + 1)))) := by
          have h := hg.set q z
          rw [put_take_succ _ _ 0 q (by omega) (by simp [hDl]), Nat.zero_add, ← unhide HDE, xorB_get _ _ _ (by simp; omega) (by simp; omega), List.getElem?_take_of_lt hql, List.getElem?_take_of_lt hql, hz, unhide HDE]
          exact h
        have hbel : Hid (Below w1.heap.size w1 (wr.setCell ⟨w1.heap.size, q, none⟩ (.int .u8 z))) := (unhide hQ).2.setCell (Nat.le_refl _) _
        generalize xs[q]?.getD 0 = xv at *
        generalize ys[q]?.getD 0 = yv at *
        generalize (put (List.replicate ly 0) 0 (D.take q))[q]?.getD 0 = ov at *
        have hqY : (q : Int) < (ly : Int) := by omega
        have hqX : (q : Int) < (lx : Int) := by omega
        clear hcx hcy hg hpl hz
        go_wp2
        go_region
        all_goals
          go_wp2
          exact ⟨⟨q + 1, by omega, by go_num, ⟨unhide hset, (unhide hbel).drew⟩⟩, by simp [intOf]; omega⟩
      · obtain rfl : q = ly := by omega
        have hbr := Below.trans hb1 ((unhide hQ).2.mono hb1.size)
        have hBD := (unhide hQ).1
        rw [put_zero _ _ hDl] at hBD
        obtain ⟨a1, c1, hc1, _, hh1⟩ := cut_h ((unhide HRX).below hbr hbr.size).has hlcx (k := q) (by omega)
        obtain ⟨a2, c2, hc2, _, hh2⟩ := cut_h ((unhide HRY).below hbr hbr.size).has hlcy (k := q) (by omega)
        have hTr := (unhide HT).below hbr hTs
        have KD : Hid (∀ w', Near wr w' → Calls Tryd.prog 12 #[.slice (some ⟨w1.heap.size, 0, none⟩) q q] w' fun e w'' => e = .returned (.int .i64 ((sumS D : Nat) : Int)) ∧ w' = w'') :=
          fun w' hN => sum_any _ _ _ _ w' (hN.tab hTr) (hN.has (hBD.has hDl)) (by omega) (unhide HDB)
        have KB : Hid (∀ w', Near wr w' → Calls Tryd.prog 12 #[.slice a1 q c1] w' fun e w'' => e = .returned (.int .i64 ((sumS (xs.take q) : Nat) : Int)) ∧ w' = w'') :=
          fun w' hN => sum_any _ _ _ _ w' (hN.tab hTr) (hN.has hh1) (by omega) (unhide HXT)
        have KC : Hid (∀ w', Near wr w' → Calls Tryd.prog 12 #[.slice a2 q c2] w' fun e w'' => e = .returned (.int .i64 ((sumS (ys.take q) : Nat) : Int)) ∧ w' = w'') :=
          fun w' hN => sum_any _ _ _ _ w' (hN.tab hTr) (hN.has hh2) (by omega) (unhide HYT)
        have K0 : Hid (∀ w', w'.heap = (wr.alloc (.cells (madeCells #[.int .u8 0] q) 5)).heap → Calls Tryd.prog 12 #[.slice (some ⟨wr.heap.size, 0, none⟩) q q] w' fun e w'' => e = .returned (.int .i64 ((sumS (List.replicate q 0) : Nat) : Int)) ∧ w' = w'') := by
          intro w' hN
          have hB : Block w' wr.heap.size (List.replicate q 0) := by
            have := make_block0 wr q
            unfold Block at this ⊢
            rw [hN]; exact this
          exact sum_any _ _ _ _ w' (Near.tab (.inr ⟨_, hN⟩) hTr) (hB.has (by simp)) (by omega) (unhide HB0)
        have l1 := sumS_lt (unhide HXT)
        have l2 := sumS_lt (unhide HYT)
        have l3 := sumS_lt (unhide HB0)
        have hS := unhide HSX
        have hx1 := i64_xor_nat (sumS (xs.take q)) (sumS (ys.take q)) (by omega) (by omega)
        have l4 := lt_xor l1 l2
        have hx2 := i64_xor_nat (sumS (xs.take q) ^^^ sumS (ys.take q)) (sumS (List.replicate q 0)) (by omega) (by omega)
        rw [← hS] at hx2
        generalize sumS (xs.take q) ^^^ sumS (ys.take q) = X1 at *
        generalize sumS (xs.take q) = SB at *
        generalize sumS (ys.take q) = SC at *
        generalize sumS (List.replicate q 0) = S0 at *
        generalize sumS D = SD at *
        clear hBD hh1 hh2 hTr hS HSX
        go_wp2
        go_cut [57] (fun c wx => c = .bool false ∧ wx = (wr.alloc (.cells (madeCells #[.int .u8 0] q) 5)).drew)
        case first =>
          go_region_with (first
          | (go_at_call_of 12 (Value.slice a1 q c1); refine (unhide KB _ ?_).mono ?_; (first | exact .inl rfl | exact .inr ⟨_, rfl⟩); rintro e w' ⟨rfl, rfl⟩)
          | (go_at_call_of 12 (Value.slice a2 q c2); refine (unhide KC _ ?_).mono ?_; (first | exact .inl rfl | exact .inr ⟨_, rfl⟩); rintro e w' ⟨rfl, rfl⟩)
          | (go_at_call_of 12 (w1.heap.size); refine (unhide KD _ ?_).mono ?_; (first | exact .inl rfl | exact .inr ⟨_, rfl⟩); rintro e w' ⟨rfl, rfl⟩)
          | (go_at_call_of 12 (wr.heap.size); refine (unhide K0 _ ?_).mono ?_; exact rfl; rintro e w' ⟨rfl, rfl⟩))
          all_goals (go_wp2_with fail; go_meet; exact ⟨rfl, rfl⟩)
        case rest =>
          obtain ⟨rfl, rfl⟩ := hcut
          have hbe := Below.drew (Below.alloc hbr hbr.size (.cells (madeCells #[.int .u8 0] q) 5))
          by_cases hA : i < 0
          · go_wp2_with fail
            go_ret
            exact ⟨rfl, hbe⟩
          by_cases hA2 : (lx : Int) ≤ i
          · go_wp2_with fail
            go_ret
            exact ⟨rfl, hbe⟩
          by_cases hA3 : x = 0
          · subst hA3
            go_wp2_with fail
            go_ret
            exact ⟨rfl, hbe⟩
          obtain ⟨i0, rfl⟩ := Int.eq_ofNat_of_zero_le (by omega : 0 ≤ i)
          have hi0 : i0 < lx := by omega
          have hiI : (i0 : Int) < (lx : Int) := by omega
          have hxe : (x == 0) = false := by simpa using hA3
          obtain ⟨g6, c6, w6, y, r6, hc6, hf6, hX6, KT, KB2, hne, hb7⟩ : ∃ g6 c6 w6 y, (∀ ty, (Builtin.append_ #[22, 22] ty #[.slice (some ⟨wr.heap.size + 1, 0, none⟩) 0 0, .slice ax lx cx]).run Tryd.prog ((wr.alloc (.cells (madeCells #[.int .u8 0] q) 5)).alloc (.cells #[] 5)).drew = .ok (.slice (some ⟨g6, 0, none⟩) lx c6) w6) ∧
              w6.cell? ⟨g6, i0, none⟩ = some (.int .u8 (xs[i0]?.getD 0)) ∧ w6.frozen? ⟨g6, i0, none⟩ = false ∧ bits .xor .u8 (xs[i0]?.getD 0) x = y ∧
              Hid (Calls Tryd.prog 12 #[.slice (some ⟨g6, 0, none⟩) lx c6] (w6.setCell ⟨g6, i0, none⟩ (.int .u8 y)) fun e w'' => e = .returned (.int .i64 ((sumS (xs.set i0 y) : Nat) : Int)) ∧ (w6.setCell ⟨g6, i0, none⟩ (.int .u8 y)) = w'') ∧
              Hid (Calls Tryd.prog 12 #[.slice ax lx cx] (w6.setCell ⟨g6, i0, none⟩ (.int .u8 y)) fun e w'' => e = .returned (.int .i64 ((sumS xs : Nat) : Int)) ∧ (w6.setCell ⟨g6, i0, none⟩ (.int .u8 y)) = w'') ∧
              sumS (xs.set i0 y) ≠ sumS xs ∧ Hid (Below w.heap.size w (w6.setCell ⟨g6, i0, none⟩ (.int .u8 y))) := flips_end HRX HT hbr hlx hi0 hxl hx hA3
          have R6 := hide r6
          have hneI : (((sumS (xs.set i0 y) : Nat) : Int) != ((sumS xs : Nat) : Int)) = true := by simp; omega
          generalize sumS (xs.set i0 y) = ST at *
          generalize sumS xs = SX at *
          generalize xs[i0]?.getD 0 = xv at *
          clear r6 hA hA2 hA3 hne hbe HRX HRY HT HXT HYT HDB HB0 HDE hx1 hx2 K0 KB KC KD
          go_wp2_with (at_builtin; refine wpList_append_run 22 rfl _ _ rfl _ _ _ rfl rfl (unhide R6) ?_)
          go_at_call 12
          refine (unhide KT).mono ?_
          rintro e w7 ⟨rfl, rfl⟩
          go_wp2_with fail
          go_at_call 12
          refine (unhide KB2).mono ?_
          rintro e w8 ⟨rfl, rfl⟩
          go_wp2_with fail
          go_ret
          exact ⟨rfl, unhide hb7⟩
  · have hdec : decide ((ly : Int) < (lx : Int)) = false := by simp; omega
    have hmk := run_make_row' (P := Tryd.prog) 22 5 (.int .u8 0) 1 Tryd.underlying22 info5 rfl .i64 .i64 lx (by omega) (by omega)
    have hxt : Byts (xs.take lx) := fun z hz => (unhide HRX).byts z (List.mem_of_mem_take hz)
    have hyt : Byts (ys.take lx) := fun z hz => (unhide HRY).byts z (List.mem_of_mem_take hz)
    have hDl : (xorB (xs.take lx) (ys.take lx)).length = lx := by simp [xorB]; omega
    have hDb := xorB_byte _ _ hxt hyt
    have hSX := sumS_xor (xs.take lx) (ys.take lx) hxt hyt lx (by simp; omega) (by simp; omega)
    have hb0 : Byts (List.replicate lx 0) := by intro z hz; rw [List.eq_of_mem_replicate hz]; omega
    generalize hD : xorB (xs.take lx) (ys.take lx) = D at *
    have HXT := hide hxt
    have HYT := hide hyt
    have HDB := hide hDb
    have HSX := hide hSX
    have HB0 := hide hb0
    have HDE := hide hD
    clear hxt hyt hDb hSX hb0 hD
    go_enter Tryd.func6, Tryd.ntmps6
    go_wp2_with (go_at_call 9; refine (unhide KW).mono ?_; rintro e w1 ⟨rfl, hb1⟩)
    go_loopw [11] (fun k wr => ∃ q : Nat, q ≤ lx ∧ k = .int .i64 (q : Int) ∧ Hid (Block wr w1.heap.size (put (List.replicate lx 0) 0 (D.take q)) ∧ Below w1.heap.size w1 wr)) (fun k _ => lx - (intOf k).toNat)
    case atStart => exact ⟨0, by omega, rfl, ⟨by rw [List.take_zero, put]; simpa using make_block0 w1 lx, (Below.refl _ _).alloc (Nat.le_refl _) _⟩⟩
    case round =>
      obtain ⟨q, hq, rfl, hQ⟩ := hrel
      by_cases hql : q < lx
      · have hb1r := Below.trans hb1 ((unhide hQ).2.mono hb1.size)
        obtain ⟨bx, ox, rfl, _, hcx⟩ := ((unhide HRX).below hb1r hb1r.size).2.2.2.2 (by omega)
        obtain ⟨by', oy, rfl, _, hcy⟩ := ((unhide HRY).below hb1r hb1r.size).2.2.2.2 (by omega)
        have h1 := hcx q (by omega)
        have h2 := hcy q (by omega)
        have hbx := getD_byte (unhide HRX).byts (k := q) (by omega)
        have hby := getD_byte (unhide HRY).byts (k := q) (by omega)
        have hg := (unhide hQ).1
        have hpl : (put (List.replicate lx 0) 0 (D.take q)).length = lx := by rw [length_put _ _ _ (by simp [hDl]; omega)]; simp
        have h3 := hg.cell (i := q) (by rw [hpl]; exact hql)
        have h4 := hg.free q
        obtain ⟨z, hz⟩ : ∃ z, (((xs[q]?.getD 0).toNat ^^^ (ys[q]?.getD 0).toNat : Nat) : Int) = z := ⟨_, rfl⟩
        have hX : bits .xor .u8 (xs[q]?.getD 0) (ys[q]?.getD 0) = z := by rw [← hz]; exact xor_byte hbx hby
        have hset : Hid (Block (wr.setCell ⟨w1.heap.size, q, none⟩ (.int .u8 z)) w1.heap.size (put (List.replicate lx 0) 0 (D.take (q + 1)))) := by
          have h := hg.set q z
          rw [put_take_succ _ _ 0 q (by omega) (by simp [hDl]), Nat.zero_add, ← unhide HDE, xorB_get _ _ _ (by simp; omega) (by simp; omega), List.getElem?_take_of_lt hql, List.getElem?_take_of_lt hql, hz, unhide HDE]
          exact h
        have hbel : Hid (Below w1.heap.size w1 (wr.setCell ⟨w1.heap.size, q, none⟩ (.int .u8 z))) := (unhide hQ).2.setCell (Nat.le_refl _) _
        generalize xs[q]?.getD 0 = xv at *
        generalize ys[q]?.getD 0 = yv at *
        generalize (put (List.replicate lx 0) 0 (D.take q))[q]?.getD 0 = ov at *
        have hqY : (q : Int) < (ly : Int) := by omega
        have hqX : (q : Int) < (lx : Int) := by omega
        clear hcx hcy hg hpl hz
        go_wp2
        go_region
        all_goals
          go_wp2
          exact ⟨⟨q + 1, by omega, by go_num, ⟨unhide hset, (unhide hbel).drew⟩⟩, by simp [intOf]; omega⟩
      · obtain rfl : q = lx := by omega
        have hbr := Below.trans hb1 ((unhide hQ).2.mono hb1.size)
        have hBD := (unhide hQ).1
        rw [put_zero _ _ hDl] at hBD
        obtain ⟨a1, c1, hc1, _, hh1⟩ := cut_h ((unhide HRX).below hbr hbr.size).has hlcx (k := q) (by omega)
        obtain ⟨a2, c2, hc2, _, hh2⟩ := cut_h ((unhide HRY).below hbr hbr.size).has hlcy (k := q) (by omega)
        have hTr := (unhide HT).below hbr hTs
        have KD : Hid (∀ w', Near wr w' → Calls Tryd.prog 12 #[.slice (some ⟨w1.heap.size, 0, none⟩) q q] w' fun e w'' => e = .returned (.int .i64 ((sumS D : Nat) : Int)) ∧ w' = w'') :=
          fun w' hN => sum_any _ _ _ _ w' (hN.tab hTr) (hN.has (hBD.has hDl)) (by omega) (unhide HDB)
        have KB : Hid (∀ w', Near wr w' → Calls Tryd.prog 12 #[.slice a1 q c1] w' fun e w'' => e = .returned (.int .i64 ((sumS (xs.take q) : Nat) : Int)) ∧ w' = w'') :=
          fun w' hN => sum_any _ _ _ _ w' (hN.tab hTr) (hN.has hh1) (by omega) (unhide HXT)
        have KC : Hid (∀ w', Near wr w' → Calls Tryd.prog 12 #[.slice a2 q c2] w' fun e w'' => e = .returned (.int .i64 ((sumS (ys.take q) : Nat) : Int)) ∧ w' = w'') :=
          fun w' hN => sum_any _ _ _ _ w' (hN.tab hTr) (hN.has hh2) (by omega) (unhide HYT)
        have K0 : Hid (∀ w', w'.heap = (wr.alloc (.cells (madeCells #[.int .u8 0] q) 5)).heap → Calls Tryd.prog 12 #[.slice (some ⟨wr.heap.size, 0, none⟩) q q] w' fun e w'' => e = .returned (.int .i64 ((sumS (List.replicate q 0) : Nat) : Int)) ∧ w' = w'') := by
          intro w' hN
          have hB : Block w' wr.heap.size (List.replicate q 0) := by
            have := make_block0 wr q
            unfold Block at this ⊢
            rw [hN]; exact this
          exact sum_any _ _ _ _ w' (Near.tab (.inr ⟨_, hN⟩) hTr) (hB.has (by simp)) (by omega) (unhide HB0)
        have l1 := sumS_lt (unhide HXT)
        have l2 := sumS_lt (unhide HYT)
        have l3 := sumS_lt (unhide HB0)
        have hS := unhide HSX
        have hx1 := i64_xor_nat (sumS (xs.take q)) (sumS (ys.take q)) (by omega) (by omega)
        have l4 := lt_xor l1 l2
        have hx2 := i64_xor_nat (sumS (xs.take q) ^^^ sumS (ys.take q)) (sumS (List.replicate q 0)) (by omega) (by omega)
        rw [← hS] at hx2
        generalize sumS (xs.take q) ^^^ sumS (ys.take q) = X1 at *
        generalize sumS (xs.take q) = SB at *
        generalize sumS (ys.take q) = SC at *
        generalize sumS (List.replicate q 0) = S0 at *
        generalize sumS D = SD at *
        clear hBD hh1 hh2 hTr hS HSX
        go_wp2
        go_cut [57] (fun c wx => c = .bool false ∧ wx = (wr.alloc (.cells (madeCells #[.int .u8 0] q) 5)).drew)
        case first =>
          go_region_with (first
          | (go_at_call_of 12 (Value.slice a1 q c1); refine (unhide KB _ ?_).mono ?_; (first | exact .inl rfl | exact .inr ⟨_, rfl⟩); rintro e w' ⟨rfl, rfl⟩)
          | (go_at_call_of 12 (Value.slice a2 q c2); refine (unhide KC _ ?_).mono ?_; (first | exact .inl rfl | exact .inr ⟨_, rfl⟩); rintro e w' ⟨rfl, rfl⟩)
          | (go_at_call_of 12 (w1.heap.size); refine (unhide KD _ ?_).mono ?_; (first | exact .inl rfl | exact .inr ⟨_, rfl⟩); rintro e w' ⟨rfl, rfl⟩)
          | (go_at_call_of 12 (wr.heap.size); refine (unhide K0 _ ?_).mono ?_; exact rfl; rintro e w' ⟨rfl, rfl⟩))
          all_goals (go_wp2_with fail; go_meet; exact ⟨rfl, rfl⟩)
        case rest =>
          obtain ⟨rfl, rfl⟩ := hcut
          have hbe := Below.drew (Below.alloc hbr hbr.size (.cells (madeCells #[.int .u8 0] q) 5))
          by_cases hA : i < 0
          · go_wp2_with fail
            go_ret
            exact ⟨rfl, hbe⟩
          by_cases hA2 : (q : Int) ≤ i
          · go_wp2_with fail
            go_ret
            exact ⟨rfl, hbe⟩
          by_cases hA3 : x = 0
          · subst hA3
            go_wp2_with fail
            go_ret
            exact ⟨rfl, hbe⟩
          obtain ⟨i0, rfl⟩ := Int.eq_ofNat_of_zero_le (by omega : 0 ≤ i)
          have hi0 : i0 < q := by omega
          have hiI : (i0 : Int) < (q : Int) := by omega
          have hxe : (x == 0) = false := by simpa using hA3
          obtain ⟨g6, c6, w6, y, r6, hc6, hf6, hX6, KT, KB2, hne, hb7⟩ : ∃ g6 c6 w6 y, (∀ ty, (Builtin.append_ #[22, 22] ty #[.slice (some ⟨wr.heap.size + 1, 0, none⟩) 0 0, .slice ax q cx]).run Tryd.prog ((wr.alloc (.cells (madeCells #[.int .u8 0] q) 5)).alloc (.cells #[] 5)).drew = .ok (.slice (some ⟨g6, 0, none⟩) q c6) w6) ∧
              w6.cell? ⟨g6, i0, none⟩ = some (.int .u8 (xs[i0]?.getD 0)) ∧ w6.frozen? ⟨g6, i0, none⟩ = false ∧ bits .xor .u8 (xs[i0]?.getD 0) x = y ∧
              Hid (Calls Tryd.prog 12 #[.slice (some ⟨g6, 0, none⟩) q c6] (w6.setCell ⟨g6, i0, none⟩ (.int .u8 y)) fun e w'' => e = .returned (.int .i64 ((sumS (xs.set i0 y) : Nat) : Int)) ∧ (w6.setCell ⟨g6, i0, none⟩ (.int .u8 y)) = w'') ∧
              Hid (Calls Tryd.prog 12 #[.slice ax q cx] (w6.setCell ⟨g6, i0, none⟩ (.int .u8 y)) fun e w'' => e = .returned (.int .i64 ((sumS xs : Nat) : Int)) ∧ (w6.setCell ⟨g6, i0, none⟩ (.int .u8 y)) = w'') ∧
              sumS (xs.set i0 y) ≠ sumS xs ∧ Hid (Below w.heap.size w (w6.setCell ⟨g6, i0, none⟩ (.int .u8 y))) := flips_end HRX HT hbr hlx hi0 hxl hx hA3
          have R6 := hide r6
          have hneI : (((sumS (xs.set i0 y) : Nat) : Int) != ((sumS xs : Nat) : Int)) = true := by simp; omega
          generalize sumS (xs.set i0 y) = ST at *
          generalize sumS xs = SX at *
          generalize xs[i0]?.getD 0 = xv at *
          clear r6 hA hA2 hA3 hne hbe HRX HRY HT HXT HYT HDB HB0 HDE hx1 hx2 K0 KB KC KD
          go_wp2_with (at_builtin; refine wpList_append_run 22 rfl _ _ rfl _ _ _ rfl rfl (unhide R6) ?_)
          go_at_call 12
          refine (unhide KT).mono ?_
          rintro e w7 ⟨rfl, rfl⟩
          go_wp2_with fail
          go_at_call 12
          refine (unhide KB2).mono ?_
          rintro e w8 ⟨rfl, rfl⟩
          go_wp2_with fail
          go_ret
          exact ⟨rfl, unhide hb7⟩

end Go.Proofs.YtleknpgkghkekaaDoor
