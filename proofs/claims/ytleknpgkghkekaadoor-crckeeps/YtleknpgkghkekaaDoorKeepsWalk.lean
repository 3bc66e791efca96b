/- CrcKeeps' walk. -/
import Derived.Test.YtleknpgkghkekaaDoorGApart
import Derived.Test.YtleknpgkghkekaaDoorGRoom
import Derived.Test.YtleknpgkghkekaaDoorUnframe
import Derived.Test.YtleknpgkghkekaaDoorBackWalk
namespace Go.Proofs.YtleknpgkghkekaaDoor
open Go.RowKit Go.Shelf
set_option linter.unusedVariables false

theorem Made.frame_row {w w' : World} {a : Option Addr} {l c : Nat} {xs : List Int} (h : Own w.heap.size w' a l c xs) (hb : Byts xs) (hl : l ≤ 140737488351232) : Row w'.heap.size w' a l c xs := h.row hb hl

/-- Frame's answer: a new row, or nil. -/
theorem frame_item (a : Option Addr) (len cap : Nat) (zs : List Int) (w : World) (hr : Row w.heap.size w a len cap zs) (hT : Tab w) :
    Calls Tryd.prog 14 #[.slice a len cap] w fun e w' => ∃ a' l c x, e = .returned (.tuple #[.slice a' l c, .int .i64 x]) ∧ Hid (l ≤ 140737488351232 ∧ ∃ xs, Byts xs ∧ Own w.heap.size w' a' l c xs) ∧ Hid (Below w.heap.size w w') := by
  have hlen := hr.1
  have hl := hr.2.2.1.1
  by_cases h : 65535 < len
  · refine (frame_bad a len cap w h hl).mono ?_
    rintro e w' ⟨rfl, rfl⟩
    exact ⟨none, 0, 0, 5, rfl, ⟨by omega, [], (by intro z hz; simp at hz), Own.nil _ _⟩, Below.refl _ _⟩
  · refine (frame_good a len cap zs w hr hT (by omega)).mono ?_
    rintro e w' ⟨a', c', rfl, hO, hb⟩
    exact ⟨a', _, c', 0, rfl, ⟨by omega, frameB zs, frameB_byts hr.byts, unhide hO⟩, hb⟩

/-- Unframe's answer: a new row, or nil. -/
theorem un_item (a : Option Addr) (len cap : Nat) (zs : List Int) (at' : Int) (w : World) (hr : Row w.heap.size w a len cap zs) (hT : Tab w) :
    Calls Tryd.prog 16 #[.slice a len cap, .int .i64 at'] w fun e w' => ∃ a' l c n x, e = .returned (.tuple #[.slice a' l c, .int .i64 n, .int .i64 x]) ∧ Hid (Made w w' a' l c) ∧ Hid (Below w.heap.size w w') := by
  have hlen := hr.1
  have hl := hr.2.2.1.1
  refine (unframe_any a len cap zs at' w hr hT).mono ?_
  rintro e w' ⟨⟨hq, rfl⟩ | ⟨hq, a', c', rfl, hO⟩, hb⟩
  · exact ⟨none, 0, 0, 0, _, rfl, ⟨Nat.zero_le _, [], Own.nil _ _⟩, hb⟩
  · refine ⟨a', _, c', _, 0, rfl, ⟨?_, _, hO⟩, hb⟩
    have := hO.1
    simp at this
    omega

/-- What the six calls have answered stands apart. -/
theorem apart_six (w1 w2 w3 w4 w5 w6 w7 w9 : World) (a1 a2 a3 a4 a5 a6 : Option Addr) (l1 l2 l3 l4 l5 l6 c1 c2 c3 c4 c5 c6 : Nat)
    (m1 : Made w1 w2 a1 l1 c1) (m2 : Made w2 w3 a2 l2 c2) (m3 : Made w3 w4 a3 l3 c3) (m4 : Made w4 w5 a4 l4 c4) (m5 : Made w5 w6 a5 l5 c5) (m6 : Made w6 w7 a6 l6 c6)
    (b1 : Below w1.heap.size w1 w2) (b2 : Below w2.heap.size w2 w3) (b3 : Below w3.heap.size w3 w4) (b4 : Below w4.heap.size w4 w5) (b5 : Below w5.heap.size w5 w6) (b6 : Below w6.heap.size w6 w7) (b7 : Below w7.heap.size w7 w9) :
    Calls Tryd.prog 21 #[.slice (some ⟨w9.heap.size, 0, none⟩) 6 6] (w9.alloc (.cells #[.slice a1 l1 c1, .slice a2 l2 c2, .slice a3 l3 c3, .slice a4 l4 c4, .slice a5 l5 c5, .slice a6 l6 c6] 22)) fun e w' => e = .returned (.bool true) ∧ Below w1.heap.size w9 w' := by
  obtain ⟨k1, x1, o1⟩ := m1
  obtain ⟨k2, x2, o2⟩ := m2
  obtain ⟨k3, x3, o3⟩ := m3
  obtain ⟨k4, x4, o4⟩ := m4
  obtain ⟨k5, x5, o5⟩ := m5
  obtain ⟨k6, x6, o6⟩ := m6
  have s1 := b1.size
  have s2 := b2.size
  have s3 := b3.size
  have s4 := b4.size
  have s5 := b5.size
  have s6 := b6.size
  have s7 := b7.size
  obtain ⟨W, hW⟩ : ∃ W, w9.alloc (.cells #[.slice a1 l1 c1, .slice a2 l2 c2, .slice a3 l3 c3, .slice a4 l4 c4, .slice a5 l5 c5, .slice a6 l6 c6] 22) = W := ⟨_, rfl⟩
  have bW : Below w9.heap.size w9 W := by rw [← hW]; exact (Below.refl _ w9).alloc (Nat.le_refl _) _
  have hL : W.heap[w9.heap.size]? = some (.cells ([(a1, l1, c1), (a2, l2, c2), (a3, l3, c3), (a4, l4, c4), (a5, l5, c5), (a6, l6, c6)].map sval).toArray 22 (0, 0)) := by
    rw [← hW]; exact World.alloc_heap_new w9 _
  have e6 : Own w6.heap.size w9 a6 l6 c6 x6 := (o6.below b7 (Nat.le_refl _))
  have e5 : Own w5.heap.size w9 a5 l5 c5 x5 := ((o5.below b6 (Nat.le_refl _)).below b7 (Nat.le_refl _))
  have e4 : Own w4.heap.size w9 a4 l4 c4 x4 := (((o4.below b5 (Nat.le_refl _)).below b6 (Nat.le_refl _)).below b7 (Nat.le_refl _))
  have e3 : Own w3.heap.size w9 a3 l3 c3 x3 := ((((o3.below b4 (Nat.le_refl _)).below b5 (Nat.le_refl _)).below b6 (Nat.le_refl _)).below b7 (Nat.le_refl _))
  have e2 : Own w2.heap.size w9 a2 l2 c2 x2 := (((((o2.below b3 (Nat.le_refl _)).below b4 (Nat.le_refl _)).below b5 (Nat.le_refl _)).below b6 (Nat.le_refl _)).below b7 (Nat.le_refl _))
  have e1 : Own w1.heap.size w9 a1 l1 c1 x1 := ((((((o1.below b2 (Nat.le_refl _)).below b3 (Nat.le_refl _)).below b4 (Nat.le_refl _)).below b5 (Nat.le_refl _)).below b6 (Nat.le_refl _)).below b7 (Nat.le_refl _))
  rw [hW]
  refine (apart_list w1.heap.size w9.heap.size 6 [(a1, l1, c1), (a2, l2, c2), (a3, l3, c3), (a4, l4, c4), (a5, l5, c5), (a6, l6, c6)] W rfl (by omega) ?_ (by omega) ?_ hL ?_).mono ?_
  · intro t ht
    simp at ht
    rcases ht with rfl | rfl | rfl | rfl | rfl | rfl <;> assumption
  · refine List.Pairwise.cons ?_ (List.Pairwise.cons ?_ (List.Pairwise.cons ?_ (List.Pairwise.cons ?_ (List.Pairwise.cons ?_ (List.Pairwise.cons ?_ List.Pairwise.nil)))))
    · intro u hu
      simp at hu
      rcases hu with rfl | rfl | rfl | rfl | rfl
      · exact aside_of (t := (a1, l1, c1)) (u := (a2, l2, c2)) o1 o2 (by omega)
      · exact aside_of (t := (a1, l1, c1)) (u := (a3, l3, c3)) o1 o3 (by omega)
      · exact aside_of (t := (a1, l1, c1)) (u := (a4, l4, c4)) o1 o4 (by omega)
      · exact aside_of (t := (a1, l1, c1)) (u := (a5, l5, c5)) o1 o5 (by omega)
      · exact aside_of (t := (a1, l1, c1)) (u := (a6, l6, c6)) o1 o6 (by omega)
    · intro u hu
      simp at hu
      rcases hu with rfl | rfl | rfl | rfl
      · exact aside_of (t := (a2, l2, c2)) (u := (a3, l3, c3)) o2 o3 (by omega)
      · exact aside_of (t := (a2, l2, c2)) (u := (a4, l4, c4)) o2 o4 (by omega)
      · exact aside_of (t := (a2, l2, c2)) (u := (a5, l5, c5)) o2 o5 (by omega)
      · exact aside_of (t := (a2, l2, c2)) (u := (a6, l6, c6)) o2 o6 (by omega)
    · intro u hu
      simp at hu
      rcases hu with rfl | rfl | rfl
      · exact aside_of (t := (a3, l3, c3)) (u := (a4, l4, c4)) o3 o4 (by omega)
      · exact aside_of (t := (a3, l3, c3)) (u := (a5, l5, c5)) o3 o5 (by omega)
      · exact aside_of (t := (a3, l3, c3)) (u := (a6, l6, c6)) o3 o6 (by omega)
    · intro u hu
      simp at hu
      rcases hu with rfl | rfl
      · exact aside_of (t := (a4, l4, c4)) (u := (a5, l5, c5)) o4 o5 (by omega)
      · exact aside_of (t := (a4, l4, c4)) (u := (a6, l6, c6)) o4 o6 (by omega)
    · intro u hu
      simp at hu
      subst hu
      exact aside_of (t := (a5, l5, c5)) (u := (a6, l6, c6)) o5 o6 (by omega)
    · intro u hu
      simp at hu
  · intro t ht
    simp at ht
    rcases ht with rfl | rfl | rfl | rfl | rfl | rfl
    · exact ⟨x1, (e1.below bW (Nat.le_refl _)).base (by omega)⟩
    · exact ⟨x2, (e2.below bW (Nat.le_refl _)).base (by omega)⟩
    · exact ⟨x3, (e3.below bW (Nat.le_refl _)).base (by omega)⟩
    · exact ⟨x4, (e4.below bW (Nat.le_refl _)).base (by omega)⟩
    · exact ⟨x5, (e5.below bW (Nat.le_refl _)).base (by omega)⟩
    · exact ⟨x6, (e6.below bW (Nat.le_refl _)).base (by omega)⟩
  · rintro e w' ⟨rfl, hb⟩
    exact ⟨rfl, (bW.mono (by omega)).trans hb⟩

set_option maxRecDepth 100000 in
set_option maxHeartbeats 4000000 in
theorem keeps_walk (a : Option Addr) (len cap : Nat) (zs : List Int) (at' : Int) (w : World) (hr : Row w.heap.size w a len cap zs) (hT : Tab w) :
    Calls Tryd.prog 8 #[.slice a len cap, .int .i64 at'] w fun e w' => e = .returned (.bool true) ∧ Below w.heap.size w w' := by
  have hlen := hr.1
  have hl := hr.2.2.1.1
  have hby := hr.byts
  have hTs := tab_size hT
  have HR := hide hr
  have HT := hide hT
  have HBY := hide hby
  have KW := hide (wakes_any w hT)
  have RR : Hid (∀ (R : Nat) (w : World), Hid (Block w R (rm zs 4)) → Row w.heap.size w (some ⟨R, 0, none⟩) len (len + 4) zs) := fun R w h => room_row h.out hlen hl hby
  clear hr hby hT
  go_enter Tryd.func8, Tryd.ntmps8
  go_wp2_with fail
  refine (unhide KW).mono ?_
  rintro e wa ⟨rfl, hb1⟩
  have B1 := hide hb1
  clear hb1
  go_wp2_with fail
  refine (roomy_any a len cap zs wa ((unhide HR).below (unhide B1) (unhide B1).size)).mono ?_
  rintro e w1 ⟨rfl, hR2, hb2⟩
  obtain ⟨R, hRR⟩ : ∃ R, wa.heap.size = R := ⟨_, rfl⟩
  rw [hRR] at hR2 hb2 ⊢
  have R1 := hide hR2
  have C1 : Hid (Below w.heap.size w w1) := (unhide B1).trans (hb2.mono (by have := (unhide B1).size; omega))
  clear hR2 hb2 hRR B1
  go_wp2_with fail
  refine (frame_item _ len (len + 4) zs w1 (unhide RR _ _ R1) (HT.out.below C1.out hTs)).mono ?_
  rintro e w2 ⟨a1, l1, c1, x1, rfl, M1, D1⟩
  have R2 : Hid (Block w2 R (rm zs 4)) := R1.out.below D1.out R1.out.lt
  have C2 : Hid (Below w.heap.size w w2) := Below.chain C1.out D1.out (Nat.le_refl _)
  go_wp2_with fail
  refine (frame_item _ len (len + 4) zs w2 (unhide RR _ _ R2) (HT.out.below C2.out hTs)).mono ?_
  rintro e w3 ⟨a2, l2, c2, x2, rfl, M2, D2⟩
  have R3 : Hid (Block w3 R (rm zs 4)) := R2.out.below D2.out R2.out.lt
  have C3 : Hid (Below w.heap.size w w3) := Below.chain C2.out D2.out (Nat.le_refl _)
  go_wp2_with fail
  refine (un_item _ len (len + 4) zs at' w3 (unhide RR _ _ R3) (HT.out.below C3.out hTs)).mono ?_
  rintro e w4 ⟨a3, l3, c3, n3, x3, rfl, M3, D3⟩
  have R4 : Hid (Block w4 R (rm zs 4)) := R3.out.below D3.out R3.out.lt
  have C4 : Hid (Below w.heap.size w w4) := Below.chain C3.out D3.out (Nat.le_refl _)
  go_wp2_with fail
  refine (un_item _ len (len + 4) zs at' w4 (unhide RR _ _ R4) (HT.out.below C4.out hTs)).mono ?_
  rintro e w5 ⟨a4, l4, c4, n4, x4, rfl, M4, D4⟩
  have R5 : Hid (Block w5 R (rm zs 4)) := R4.out.below D4.out R4.out.lt
  have C5 : Hid (Below w.heap.size w w5) := Below.chain C4.out D4.out (Nat.le_refl _)
  go_wp2_with fail
  refine (sum_any _ len (len + 4) zs w5 (HT.out.below C5.out hTs) (unhide RR _ _ R5).has (by omega) HBY.out).mono ?_
  rintro e w5' ⟨rfl, rfl⟩
  go_wp2_with fail
  refine (add_any _ len (len + 4) zs 5 w5 (HT.out.below C5.out hTs) (unhide RR _ _ R5).has (by omega) HBY.out).mono ?_
  rintro e w5' ⟨rfl, rfl⟩
  have M1' : Hid (Made w1 w2 a1 l1 c1) := ⟨M1.out.1, by obtain ⟨xs, _, ho⟩ := M1.out.2; exact ⟨xs, ho⟩⟩
  have M2' : Hid (Made w2 w3 a2 l2 c2) := ⟨M2.out.1, by obtain ⟨xs, _, ho⟩ := M2.out.2; exact ⟨xs, ho⟩⟩
  have RF : Hid (∃ xs, Row w5.heap.size w5 a1 l1 c1 xs) := by
    obtain ⟨hl1, xs, hb, ho⟩ := M1.out
    exact ⟨xs, (((((ho.below D2.out (Nat.le_refl _)).below D3.out (Nat.le_refl _)).below D4.out (Nat.le_refl _)).row hb hl1))⟩
  have B5 : Hid (Below w1.heap.size w1 w5) := by
    exact Below.chain (Below.chain (Below.chain D1.out D2.out (Nat.le_refl _)) D3.out (Nat.le_refl _)) D4.out (Nat.le_refl _)
  clear M1 M2
  by_cases hpos : 0 < l1
  · have hposI : (0 : Int) < (l1 : Int) := by omega
    obtain ⟨fs, hF⟩ := RF.out
    have HF := hide hF
    clear hF RF
    go_wp2_with fail
    refine (un_item _ l1 c1 fs 0 w5 HF.out (HT.out.below C5.out hTs)).mono ?_
    rintro e w6 ⟨a5, l5, c5, n5, x5, rfl, M5, D5⟩
    have C6 : Hid (Below w.heap.size w w6) := Below.chain C5.out D5.out (Nat.le_refl _)
    go_wp2_with fail
    refine (un_item _ l1 c1 fs 0 w6 (HF.out.below D5.out D5.out.size) (HT.out.below C6.out hTs)).mono ?_
    rintro e w7 ⟨a6, l6, c6, n6, x6, rfl, M6, D6⟩
    have B7 : Hid (Below w1.heap.size w1 w7) := Below.chain (Below.chain B5.out D5.out (Nat.le_refl _)) D6.out (Nat.le_refl _)
    clear HF hposI hpos
    have BW7 : Hid (Below w.heap.size w w7) := C1.out.trans (B7.out.mono C1.out.size)
    have R7 : Hid (Block w7 R (rm zs 4)) := R1.out.below B7.out R1.out.lt
    go_wp2_with fail
    refine (kept_any R a len cap zs w7 hl R7.out ((unhide HR).below BW7.out BW7.out.size).has).mono ?_
    rintro e w8 ⟨rfl, hb8⟩
    have D7 := hide hb8
    clear hb8
    have R8 : Hid (Block w8 R (rm zs 4)) := R7.out.below D7.out R7.out.lt
    have B8 : Hid (Below w.heap.size w w8) := BW7.out.trans (D7.out.mono BW7.out.size)
    go_wp2_with fail
    refine (apart_six w1 w2 w3 w4 w5 w6 w7 w8 a1 a2 a3 a4 a5 a6 l1 l2 l3 l4 l5 l6 c1 c2 c3 c4 c5 c6 M1'.out M2'.out M3.out M4.out M5.out M6.out D1.out D2.out D3.out D4.out D5.out D6.out D7.out).mono ?_
    rintro e w9 ⟨rfl, hb9⟩
    have R9 : Hid (Block w9 R (rm zs 4)) := R8.out.below hb9 R1.out.lt
    have B9 : Hid (Below w.heap.size w w9) := B8.out.trans (hb9.mono C1.out.size)
    clear hb9
    go_wp2_with fail
    refine (kept_any R a len cap zs w9 hl R9.out ((unhide HR).below B9.out B9.out.size).has).mono ?_
    rintro e w10 ⟨rfl, hb10⟩
    have B10 : Hid (Below w.heap.size w w10) := B9.out.trans (hb10.mono B9.out.size)
    clear hb10
    go_wp2_with fail
    go_ret
    exact ⟨rfl, B10.out⟩
  · have hposI : ¬ (0 : Int) < (l1 : Int) := by omega
    obtain ⟨w6, h6⟩ : ∃ w6, w6 = w5 := ⟨_, rfl⟩
    obtain ⟨w7, h7⟩ : ∃ w7, w7 = w5 := ⟨_, rfl⟩
    obtain ⟨a5, h8⟩ : ∃ a5 : Option Addr, a5 = none := ⟨_, rfl⟩
    obtain ⟨a6, h9⟩ : ∃ a6 : Option Addr, a6 = none := ⟨_, rfl⟩
    have M5 : Hid (Made w5 w6 none 0 0) := by subst h6; exact ⟨Nat.zero_le _, [], Own.nil _ _⟩
    have M6 : Hid (Made w6 w7 none 0 0) := ⟨Nat.zero_le _, [], Own.nil _ _⟩
    have D5 : Hid (Below w5.heap.size w5 w6) := by subst h6; exact Below.refl _ _
    have D6 : Hid (Below w6.heap.size w6 w7) := by subst h6; subst h7; exact Below.refl _ _
    have B7 : Hid (Below w1.heap.size w1 w7) := by subst h7; exact B5.out
    subst h7
    clear h6 RF hpos h8 h9 a5 a6
    have BW7 : Hid (Below w.heap.size w w7) := C1.out.trans (B7.out.mono C1.out.size)
    have R7 : Hid (Block w7 R (rm zs 4)) := R1.out.below B7.out R1.out.lt
    go_wp2_with fail
    refine (kept_any R a len cap zs w7 hl R7.out ((unhide HR).below BW7.out BW7.out.size).has).mono ?_
    rintro e w8 ⟨rfl, hb8⟩
    have D7 := hide hb8
    clear hb8
    have R8 : Hid (Block w8 R (rm zs 4)) := R7.out.below D7.out R7.out.lt
    have B8 : Hid (Below w.heap.size w w8) := BW7.out.trans (D7.out.mono BW7.out.size)
    go_wp2_with fail
    refine (apart_six w1 w2 w3 w4 w7 w6 w7 w8 a1 a2 a3 a4 none none l1 l2 l3 l4 0 0 c1 c2 c3 c4 0 0 M1'.out M2'.out M3.out M4.out M5.out M6.out D1.out D2.out D3.out D4.out D5.out D6.out D7.out).mono ?_
    rintro e w9 ⟨rfl, hb9⟩
    have R9 : Hid (Block w9 R (rm zs 4)) := R8.out.below hb9 R1.out.lt
    have B9 : Hid (Below w.heap.size w w9) := B8.out.trans (hb9.mono C1.out.size)
    clear hb9
    go_wp2_with fail
    refine (kept_any R a len cap zs w9 hl R9.out ((unhide HR).below B9.out B9.out.size).has).mono ?_
    rintro e w10 ⟨rfl, hb10⟩
    have B10 : Hid (Below w.heap.size w w10) := B9.out.trans (hb10.mono B9.out.size)
    clear hb10
    go_wp2_with fail
    go_ret
    exact ⟨rfl, B10.out⟩

end Go.Proofs.YtleknpgkghkekaaDoor
