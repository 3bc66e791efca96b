/- CrcBack's walk, where both frames are made. -/
import Derived.Test.YtleknpgkghkekaaDoorBackWalk
import Derived.Test.YtleknpgkghkekaaDoorFlipsWalk
namespace Go.Proofs.YtleknpgkghkekaaDoor
open Go.RowKit Go.Shelf
set_option linter.unusedVariables false

theorem Row.head {n0 : Nat} {w : World} {a : Option Addr} {len cap : Nat} {zs : List Int} (h : Row n0 w a len cap zs) {k : Nat} (hk : k ≤ len) : Row n0 w (cutAt a cap 0) k cap (zs.take k) := by
  obtain ⟨h1, h2, h3, h4, h5⟩ := h
  refine ⟨by simp [h1]; omega, by omega, by omega, fun z hz => h4 z (List.mem_of_mem_take hz), fun hp => ?_⟩
  obtain ⟨b, off, rfl, hb, hc⟩ := h5 (by omega)
  refine ⟨b, off, ?_, hb, fun j hj => ?_⟩
  · unfold cutAt
    rw [if_neg (by omega), Option.map_some, Nat.zero_mul, World.add_zero_spot, Nat.add_zero]
  · rw [hc j (by omega), List.getElem?_take_of_lt hj]

/-- The turned copy of a frame is refused. -/
theorem back_end {w w8 : World} {a2 : Option Addr} {F c2 : Nat} {xs : List Int} {x : Int} {i0 : Nat} (hR : Row w8.heap.size w8 a2 F c2 (frameB xs)) (hT : Tab w) (hb8 : Below w.heap.size w w8) (hby : Byts xs) (hl : xs.length ≤ 65535) (hF : xs.length + 6 = F) (hi : i0 < F) (h2 : 2 ≤ i0) (hx : 0 ≤ x ∧ x ≤ 255) (hx0 : ¬ x = 0) :
    ∃ g9 c9 w9 ov y, (∀ ty, (Builtin.append_ #[22, 22] ty #[.slice (some ⟨w8.heap.size, 0, none⟩) 0 0, .slice a2 F c2]).run Tryd.prog (w8.alloc (.cells #[] 5)) = .ok (.slice (some ⟨g9, 0, none⟩) F c9) w9) ∧
      w9.cell? ⟨g9, i0, none⟩ = some (.int .u8 ov) ∧ w9.frozen? ⟨g9, i0, none⟩ = false ∧ bits .xor .u8 ov x = y ∧
      Hid (Calls Tryd.prog 16 #[.slice (some ⟨g9, 0, none⟩) F c9, .int .i64 0] (w9.setCell ⟨g9, i0, none⟩ (.int .u8 y)) fun e w' => e = .returned (.tuple #[.slice none 0 0, .int .i64 0, .int .i64 20]) ∧ Below w.heap.size w w') := by
  have hFB := frameB_byts hby
  have hFL := frameB_length xs
  have hz := hb8.size
  obtain ⟨a9, c9, w9, r9, h9⟩ := app_one (c := c2) hR.has (by omega)
  obtain ⟨o9, b9⟩ := unhide h9
  obtain ⟨g9, rfl, hg9, hc9, hf9⟩ := o9.cell hi
  have hxv := getD_byte hFB (k := i0) (by omega)
  have hX := xor_byte hxv hx
  have hrg := xor_byte_range hxv hx
  have hyr : (0 : Int) ≤ ((((frameB xs)[i0]?.getD 0).toNat ^^^ x.toNat : Nat) : Int) ∧ ((((frameB xs)[i0]?.getD 0).toNat ^^^ x.toNat : Nat) : Int) ≤ 255 := by omega
  have hyne : ((((frameB xs)[i0]?.getD 0).toNat ^^^ x.toNat : Nat) : Int) ≠ (frameB xs)[i0]?.getD 0 := by
    intro h
    have h1 : ((frameB xs)[i0]?.getD 0).toNat ^^^ x.toNat = ((frameB xs)[i0]?.getD 0).toNat ^^^ 0 := by rw [Nat.xor_zero]; omega
    have := xor_cancel_left h1
    omega
  generalize ((((frameB xs)[i0]?.getD 0).toNat ^^^ x.toNat : Nat) : Int) = y at *
  have o10 := o9.set i0 y
  have hb9 := Below.chain hb8 b9 (Nat.le_refl _)
  have hb10 : Below w.heap.size w (w9.setCell ⟨g9, i0, none⟩ (.int .u8 y)) := hb9.setCell (p := ⟨g9, i0, none⟩) (by show w.heap.size ≤ g9; omega) _
  have hbs : Byts ((frameB xs).set i0 y) := by
    intro z hz
    rcases List.mem_or_eq_of_mem_set hz with h | h
    · exact hFB z h
    · subst h; exact hyr
  refine ⟨g9, c9, w9, _, y, r9, hc9, hf9, hX, ?_⟩
  refine (un_refused (o10.row hbs (by omega)) (hT.below hb10 (tab_size hT)) 20 (restE_turned xs hby hl i0 h2 (by omega) y hyr hyne) (by omega)).mono ?_
  rintro e w' ⟨rfl, hb'⟩
  exact ⟨rfl, Below.chain hb10 hb' (Nat.le_refl _)⟩

set_option maxRecDepth 100000 in
set_option maxHeartbeats 4000000 in
theorem back_good (ax ay : Option Addr) (lx cx ly cy : Nat) (xs ys : List Int) (i x : Int) (w : World) (hrx : Row w.heap.size w ax lx cx xs) (hry : Row w.heap.size w ay ly cy ys) (hT : Tab w) (h0 : lx ≤ 65535) (h1 : ly ≤ 65535) (hx : 0 ≤ x ∧ x ≤ 255) :
    Calls Tryd.prog 7 #[.slice ax lx cx, .slice ay ly cy, .int .i64 i, .int .u8 x] w fun e w' => e = .returned (.bool true) ∧ Below w.heap.size w w' := by
  have hTs := tab_size hT
  have KW := hide (wakes_any w hT)
  have hxl := hrx.1
  have hyl := hry.1
  have hbx := hrx.byts
  have hby := hry.byts
  obtain ⟨F, hF⟩ : ∃ F, lx + 6 = F := ⟨_, rfl⟩
  obtain ⟨G, hG⟩ : ∃ G, ly + 6 = G := ⟨_, rfl⟩
  obtain ⟨A, hA⟩ : ∃ A, F + G = A := ⟨_, rfl⟩
  have hFX := frameB_byts hbx
  have hFY := frameB_byts hby
  have hFXl := frameB_length xs
  have hFYl := frameB_length ys
  have K1 : Hid (∀ w1, Below w.heap.size w w1 → Calls Tryd.prog 14 #[.slice ax lx cx] w1 fun e w' => ∃ a' c', e = .returned (.tuple #[.slice a' F c', .int .i64 0]) ∧ Hid (Row w'.heap.size w' a' F c' (frameB xs)) ∧ Below w.heap.size w w') := by
    intro w1 hb
    have := frame_good ax lx cx xs w1 (hrx.below hb hb.size) (hT.below hb hTs) h0
    rw [hF] at this
    refine this.mono ?_
    rintro e w' ⟨a', c', rfl, hO, hb'⟩
    exact ⟨a', c', rfl, (unhide hO).row hFX (by omega), Below.chain hb hb' (Nat.le_refl _)⟩
  have K2 : Hid (∀ w1, Below w.heap.size w w1 → Calls Tryd.prog 14 #[.slice ay ly cy] w1 fun e w' => ∃ a' c', e = .returned (.tuple #[.slice a' G c', .int .i64 0]) ∧ Hid (Row w'.heap.size w' a' G c' (frameB ys) ∧ Below w1.heap.size w1 w') ∧ Below w.heap.size w w') := by
    intro w1 hb
    have := frame_good ay ly cy ys w1 (hry.below hb hb.size) (hT.below hb hTs) h1
    rw [hG] at this
    refine this.mono ?_
    rintro e w' ⟨a', c', rfl, hO, hb'⟩
    exact ⟨a', c', rfl, ⟨(unhide hO).row hFY (by omega), hb'⟩, Below.chain hb hb' (Nat.le_refl _)⟩
  have S1 : Hid (∀ a2 c2 a3 c3 w2 w3, Hid (Row w2.heap.size w2 a2 F c2 (frameB xs)) → Hid (Row w3.heap.size w3 a3 G c3 (frameB ys) ∧ Below w2.heap.size w2 w3) → Below w.heap.size w w3 →
      ∃ a4 c4 w4 a5 c5 w5, (∀ ty, (Builtin.append_ #[22, 22] ty #[.slice (some ⟨w3.heap.size, 0, none⟩) 0 0, .slice a2 F c2]).run Tryd.prog (w3.alloc (.cells #[] 5)) = .ok (.slice a4 F c4) w4) ∧
        (∀ ty, (Builtin.append_ #[22, 22] ty #[.slice a4 F c4, .slice a3 G c3]).run Tryd.prog w4 = .ok (.slice a5 A c5) w5) ∧
        Hid (Row w5.heap.size w5 a2 F c2 (frameB xs) ∧ Below w.heap.size w w5) ∧
        Hid (Calls Tryd.prog 16 #[.slice a5 A c5, .int .i64 0] w5 fun e w' => ∃ a' c', e = .returned (.tuple #[.slice a' lx c', .int .i64 (F : Int), .int .i64 0]) ∧ Hid (Has w' a' lx xs ∧ Below w5.heap.size w5 w')) ∧
        Hid (∀ a6 w6, Hid (Has w6 a6 lx xs ∧ Below w5.heap.size w5 w6) → Calls Tryd.prog 16 #[.slice a5 A c5, .int .i64 (F : Int)] w6 fun e w' => ∃ a' c', e = .returned (.tuple #[.slice a' ly c', .int .i64 (A : Int), .int .i64 0]) ∧ Hid (Has w' a6 lx xs ∧ Has w' a' ly ys ∧ Below w5.heap.size w5 w' ∧ Below w.heap.size w w'))) := by
    intro a2 c2 a3 c3 w2 w3 h2 h3 hb3
    obtain ⟨h3r, h3b⟩ := unhide h3
    have h2' := (unhide h2).below h3b h3b.size
    obtain ⟨a4, c4, w4, a5, c5, w5, r4, r5, h5⟩ := app_two (c := c2) (d := c3) h2'.has h3r.has (by omega) (by omega)
    rw [hA] at r5 h5
    obtain ⟨o5, b5⟩ := unhide h5
    have hb5 := Below.chain hb3 b5 (Nat.le_refl _)
    have hT5 := hT.below hb5 hTs
    have hall := byts_append hFX hFY
    refine ⟨a4, c4, w4, a5, c5, w5, r4, r5, ⟨h2'.below b5 b5.size, hb5⟩, ?_, ?_⟩
    · have := un_whole (zs := xs) (r := frameB ys) o5 hall (by omega) 0 (Nat.zero_le _) (by rw [List.drop_zero]) hbx (by omega) hT5 lx F hxl (by omega)
      exact this
    · intro a6 w6 h6
      obtain ⟨h6h, h6b⟩ := unhide h6
      have hb6 := Below.chain hb5 h6b (Nat.le_refl _)
      refine (un_whole (zs := ys) (r := []) (o5.below h6b (Nat.le_refl _)) hall (by omega) F (by omega) ?_ hby (by omega) (hT.below hb6 hTs) ly A hyl (by omega)).mono ?_
      · rw [List.append_nil, List.drop_append_of_le_length (by omega), List.drop_of_length_le (by omega), List.nil_append]
      · rintro e w' ⟨a', c', rfl, h7⟩
        obtain ⟨h7h, h7b⟩ := unhide h7
        exact ⟨a', c', rfl, h6h.later h7b, h7h, Below.chain h6b h7b (Nat.le_refl _), Below.chain hb6 h7b (Nat.le_refl _)⟩
  have KX : Hid (∀ a6 a7 c6 w5 w7, Hid (Has w7 a6 lx xs ∧ Has w7 a7 ly ys ∧ Below w5.heap.size w5 w7 ∧ Below w.heap.size w w7) → Calls Tryd.prog 18 #[.slice a6 lx c6, .slice ax lx cx] w7 fun e w' => e = .returned (.bool true) ∧ w7 = w') :=
    fun a6 a7 c6 w5 w7 h => same_true a6 ax lx c6 cx xs w7 (unhide h).1 (hrx.below (unhide h).2.2.2 (unhide h).2.2.2.size).has
  have KY : Hid (∀ a6 a7 c7 w5 w7, Hid (Has w7 a6 lx xs ∧ Has w7 a7 ly ys ∧ Below w5.heap.size w5 w7 ∧ Below w.heap.size w w7) → Calls Tryd.prog 18 #[.slice a7 ly c7, .slice ay ly cy] w7 fun e w' => e = .returned (.bool true) ∧ w7 = w') :=
    fun a6 a7 c7 w5 w7 h => same_true a7 ay ly c7 cy ys w7 (unhide h).2.1 (hry.below (unhide h).2.2.2 (unhide h).2.2.2.size).has
  have hFI : ((F : Int) != (lx : Int) + 6) = false := by simp; omega
  have HT := hide hT
  have HBX := hide hbx
  have HXL := hide hxl
  have hF6 : F ≤ 65541 := by omega
  have HF := hide hF
  clear hrx hry hT hbx hby hFX hFY hFXl hFYl hA hG hF hxl hyl
  go_enter Tryd.func7, Tryd.ntmps7
  go_wp2_with (go_at_call 9; refine (unhide KW).mono ?_; rintro e w1 ⟨rfl, hb1⟩)
  go_at_call 14
  refine (unhide K1 _ hb1).mono ?_
  rintro e w2 ⟨a2, c2, rfl, h2, hb2⟩
  go_wp2_with fail
  go_at_call 14
  refine (unhide K2 _ hb2).mono ?_
  rintro e w3 ⟨a3, c3, rfl, h3, hb3⟩
  obtain ⟨a4, c4, w4, a5, c5, w5, r4, r5, h5, KA, KB⟩ := unhide S1 a2 c2 a3 c3 w2 w3 h2 h3 hb3
  have R4 := hide r4
  have R5 := hide r5
  clear r4 r5 S1 K1 K2 KW h2 h3 hb3 hb2 hb1
  go_wp2_with (first
    | (at_builtin; refine wpList_append_run 22 rfl _ _ rfl _ _ _ rfl rfl (unhide R4) ?_)
    | (at_builtin; refine wpList_append_run 22 rfl _ _ rfl _ _ _ rfl rfl (unhide R5) ?_))
  go_at_call 16
  refine (unhide KA).mono ?_
  rintro e w6 ⟨a6, c6, rfl, h6⟩
  go_wp2_with fail
  go_at_call 16
  refine (unhide KB _ _ h6).mono ?_
  rintro e w7 ⟨a7, c7, rfl, h7⟩
  go_wp2_with fail
  go_at_call 18
  refine (unhide KX a6 a7 c6 w5 w7 h7).mono ?_
  rintro e w8 ⟨rfl, rfl⟩
  go_wp2_with fail
  go_at_call 18
  refine (unhide KY a6 a7 c7 w5 w7 h7).mono ?_
  rintro e w8 ⟨rfl, rfl⟩
  have hb7 := (unhide h7).2.2.2
  have h5R : Hid (Row w7.heap.size w7 a2 F c2 (frameB xs)) := (unhide h5).1.below (unhide h7).2.2.1 (unhide h7).2.2.1.size
  have hFc := (unhide h5).1.2.1
  clear KA KB KX KY R4 R5 h5 h6 h7
  by_cases hA1 : i < 0
  · go_wp2_with fail
    go_ret
    exact ⟨rfl, hb7⟩
  by_cases hA2 : (F : Int) ≤ i
  · go_wp2_with fail
    go_ret
    exact ⟨rfl, hb7⟩
  obtain ⟨i0, rfl⟩ := Int.eq_ofNat_of_zero_le (by omega : 0 ≤ i)
  have hi0 : i0 < F := by omega
  have hiI : (i0 : Int) < (F : Int) := by omega
  have hsl : ∀ w, (Instr.slice 22 (.slice a2 F c2) none (some (.int .i64 (i0 : Int))) none).run Tryd.prog w = .ok (.slice (cutAt a2 c2 0) i0 c2) w := fun w => run_cut_h a2 F c2 i0 (by omega) w
  have KS : Hid (Calls Tryd.prog 16 #[.slice (cutAt a2 c2 0) i0 c2, .int .i64 0] w7 fun e w' => e = .returned (.tuple #[.slice none 0 0, .int .i64 0, .int .i64 21]) ∧ Below w7.heap.size w7 w') := by
    have hl := unhide HXL
    have hF := unhide HF
    exact un_refused ((unhide h5R).head (by omega)) ((unhide HT).below hb7 hTs) 21 (restE_cut xs (by omega) i0 (by omega)) (by omega)
  generalize cutAt a2 c2 0 = a8 at *
  clear hA1 hA2
  by_cases hx0 : x = 0
  · subst hx0
    go_wp2_with (go_at_call 16; refine (unhide KS).mono ?_; rintro e w8 ⟨rfl, hb8⟩)
    go_ret
    exact ⟨rfl, Below.chain hb7 hb8 (Nat.le_refl _)⟩
  have hxe : (x == 0) = false := by simpa using hx0
  by_cases hi2 : i0 < 2
  · have hi2I : (i0 : Int) < 2 := by omega
    go_wp2_with (go_at_call 16; refine (unhide KS).mono ?_; rintro e w8 ⟨rfl, hb8⟩)
    go_ret
    exact ⟨rfl, Below.chain hb7 hb8 (Nat.le_refl _)⟩
  have hi2I : ¬ (i0 : Int) < 2 := by omega
  go_wp2_with fail
  go_at_call 16
  refine (unhide KS).mono ?_
  rintro e w8 ⟨rfl, hb8⟩
  obtain ⟨g9, c9, w9, ov, y, r9, hc9, hf9, hX9, KE⟩ := back_end (x := x) (i0 := i0) ((unhide h5R).below hb8 hb8.size) (unhide HT) (Below.chain hb7 hb8 (Nat.le_refl _)) (unhide HBX) (by rw [unhide HXL]; exact h0) (by rw [unhide HXL]; exact unhide HF) hi0 (by omega) hx hx0
  have R9 := hide r9
  clear r9 KS HT HBX HXL HF h5R hx0
  go_wp2_with (at_builtin; refine wpList_append_run 22 rfl _ _ rfl _ _ _ rfl rfl (unhide R9) ?_)
  go_at_call 16
  refine (unhide KE).mono ?_
  rintro e w10 ⟨rfl, hb10⟩
  go_wp2_with fail
  go_ret
  exact ⟨rfl, hb10⟩

theorem back_walk (ax ay : Option Addr) (lx cx ly cy : Nat) (xs ys : List Int) (i x : Int) (w : World) (hrx : Row w.heap.size w ax lx cx xs) (hry : Row w.heap.size w ay ly cy ys) (hT : Tab w) (hx : 0 ≤ x ∧ x ≤ 255) :
    Calls Tryd.prog 7 #[.slice ax lx cx, .slice ay ly cy, .int .i64 i, .int .u8 x] w fun e w' => e = .returned (.bool true) ∧ Below w.heap.size w w' := by
  by_cases h0 : 65535 < lx
  · exact back_bad1 ax ay lx cx ly cy xs ys i x w hrx hry hT h0
  by_cases h1 : 65535 < ly
  · exact back_bad2 ax ay lx cx ly cy xs ys i x w hrx hry hT (by omega) h1
  exact back_good ax ay lx cx ly cy xs ys i x w hrx hry hT (by omega) (by omega) hx

end Go.Proofs.YtleknpgkghkekaaDoor
